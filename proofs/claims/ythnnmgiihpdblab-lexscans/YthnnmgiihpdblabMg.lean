/- The document's own Scan. -/
import Derived.Test.YthnnmgiihpdblabMf
import Derived.Test.YthnnmgiihpdblabLz
namespace Go.Proofs.Ythnnmgiihpdblab
open Go.RowKit

theorem rscan_long (l : List UInt8) (w : World) (h : 16000 < l.length) : Calls Try.prog 7 #[S l] w (ScanPost (scanP l) w) := by
  unfold scanP
  rw [if_pos h]
  have h' : (16000 : Int) < l.length := by omega
  go_enter Try.func7, Try.ntmps7
  go_wp2
  go_ret3
  exact ⟨rfl, Below.refl _ _⟩

theorem blank_cases {c : UInt8} : blankB c = (((c.toNat : Int) == 32) || ((c.toNat : Int) == 9) || ((c.toNat : Int) == 10) || ((c.toNat : Int) == 13)) := (blank_byte c).symm

theorem step_some {l : List UInt8} {i j : Nat} (hb : blankB (l.getD i 0) = false) (hcm : ¬ (l.getD i 0 = 47 ∧ l.getD (i + 1) 0 = 42)) (h : stepS l i = .go none j) : False := by
  unfold stepS at h
  rw [if_neg (by rw [hb]; decide), if_neg hcm] at h
  repeat' split at h
  all_goals cases h

set_option maxRecDepth 4000 in
set_option maxHeartbeats 8000000 in
theorem rscan_short (l : List UInt8) (W : World) (hl : l.length ≤ 16000) : Calls Try.prog 7 #[S l] W (ScanPost (scanP l) W) := by
  have HS : Hid (∀ R, Scans l 0 [] R → R = scanP l) := fun R h => h.det (scanP_scans hl)
  obtain ⟨R0, hR0⟩ : ∃ R0, scanP l = R0 := ⟨_, rfl⟩
  rw [hR0] at HS ⊢
  clear hR0
  have h' : (l.length : Int) ≤ 16000 := by omega
  have hd : decide ((16000 : Int) < l.length) = false := decide_eq_false (by omega)
  obtain ⟨inf, hi1, hi2, hi3, hi4⟩ := info37_ex
  have HI : Hid (Try.prog.info? 37 = some inf ∧ inf.zero = some (.agg #[.int .i64 0, .string ⟨#[]⟩, .int .i64 0, .int .i64 0]) ∧ inf.size = 4 ∧ inf.bytes = 40) := ⟨hi1, hi2, hi3, hi4⟩
  clear hi1 hi2 hi3 hi4
  go_enter Try.func7, Try.ntmps7
  go_wp2_with fail
  clear hd
  go_loopw [5, 6] (fun o i wr => ∃ (k n co : Nat) (oo : Option Addr) (ts : List Tok), i = .int .i64 k ∧ o = .slice oo n co ∧ k ≤ l.length ∧ n ≤ k ∧ Hid (ts.length = n) ∧ Hid (wr.ownsRow W.heap.size 37 4 (.slice oo n co) n (tokCells ts)) ∧ Hid (Below W.heap.size W wr) ∧ Hid (∀ R, Scans l k ts R → R = R0)) (fun _ i _ => l.length - (intOf i).toNat)
  case atStart => exact ⟨0, 0, 0, none, [], rfl, rfl, by omega, by omega, rfl, World.ownsRow_nil _ _ _ _, Below.refl _ _, HS.out⟩
  case round =>
    obtain ⟨k, n, co, oo, ts, rfl, rfl, hk, hnk, HN, HO, HB, HR⟩ := hrel
    by_cases hlt : k < l.length
    · have hk' : (k : Int) < l.length := by omega
      have hcs : ({ data := l.toArray } : ByteArray)[k]'hlt = l.getD k 0 := (getD_lt hlt).symm
      cases hbl : blankB (l.getD k 0)
      rotate_left
      · have HR2 : Hid (∀ R, Scans l (k + 1) ts R → R = R0) := fun R h => HR.out R (.go (t := none) hlt (by unfold stepS; rw [if_pos hbl]) (by simpa using h))
        rw [blank_cases] at hbl
        clear HR
        generalize l.getD k 0 = d at *
        have hq : ((d.toNat : Int) == 32) = true ∨ (((d.toNat : Int) == 32) = false ∧ ((d.toNat : Int) == 9) = true) ∨ (((d.toNat : Int) == 32) = false ∧ ((d.toNat : Int) == 9) = false ∧ ((d.toNat : Int) == 10) = true) ∨ (((d.toNat : Int) == 32) = false ∧ ((d.toNat : Int) == 9) = false ∧ ((d.toNat : Int) == 10) = false ∧ ((d.toNat : Int) == 13) = true) := by
          revert hbl
          cases ((d.toNat : Int) == 32) <;> cases ((d.toNat : Int) == 9) <;> cases ((d.toNat : Int) == 10) <;> cases ((d.toNat : Int) == 13) <;> simp
        clear hbl
        rcases hq with h1 | ⟨h1, h2⟩ | ⟨h1, h2, h3⟩ | ⟨h1, h2, h3, h4⟩
        all_goals (
          go_wp2
          go_roundw
          case rel => exact ⟨k + 1, n, co, oo, ts, by go_num, rfl, by omega, by omega, HN.out, HO.out, HB.out, HR2.out⟩
          case measure => simp [intOf]; omega)
      · have hq : ((l.getD k 0).toNat : Int) ≠ 32 ∧ ((l.getD k 0).toNat : Int) ≠ 9 ∧ ((l.getD k 0).toNat : Int) ≠ 10 ∧ ((l.getD k 0).toNat : Int) ≠ 13 := by
          refine ⟨fun h => ?_, fun h => ?_, fun h => ?_, fun h => ?_⟩ <;> (rw [blank_cases, h] at hbl; simp at hbl)
        have q1 : (((l.getD k 0).toNat : Int) == 32) = false := beq_eq_false_iff_ne.2 hq.1
        have q2 : (((l.getD k 0).toNat : Int) == 9) = false := beq_eq_false_iff_ne.2 hq.2.1
        have q3 : (((l.getD k 0).toNat : Int) == 10) = false := beq_eq_false_iff_ne.2 hq.2.2.1
        have q4 : (((l.getD k 0).toNat : Int) == 13) = false := beq_eq_false_iff_ne.2 hq.2.2.2
        by_cases hcm : l.getD k 0 = 47 ∧ l.getD (k + 1) 0 = 42
        · have hk1 : k + 1 < l.length := by
            rcases Nat.lt_or_ge (k + 1) l.length with h | h
            · exact h
            · have := hcm.2; rw [getD_ge h] at this; cases this
          have hk1' : (k : Int) + 1 < l.length := by omega
          have hcs2 : ({ data := l.toArray } : ByteArray)[k + 1]'hk1 = 42 := by rw [← hcm.2]; exact (getD_lt hk1).symm
          have hst : stepS l k = match cend l (k + 2) with | none => .err 33 | some j => .go none j := by
            conv => lhs; unfold stepS
            rw [if_neg (by rw [hbl]; decide), if_pos hcm]
            cases cend l (k + 2) <;> rfl
          have H1 : Hid (∀ w, Calls Try.prog 18 #[S l, .int .i64 k] w fun e w' => e = .returned (.int .i64 (cendV l k : Nat)) ∧ w' = w) := fun w => rcomment_any l k (by omega) (by omega) w
          rw [hcm.1] at hcs
          cases hce : cend l (k + 2) with
          | none =>
            have HF : Hid (Res.err 33 k = R0) := HR.out _ (.err hlt (by rw [hst, hce]))
            have hv : cendV l k = 0 := by unfold cendV; rw [hce]; rfl
            rw [hv] at H1
            clear hv hce hst hcm hq hbl q1 q2 q3 q4 HR
            go_wp2_with fail
            refine (H1.out _).mono ?_
            rintro e w2 ⟨rfl, hw⟩
            have hw1 := hw.symm
            clear hw
            subst hw1
            go_wp2
            go_ret3
            rw [← HF.out]
            exact ⟨rfl, HB.out⟩
          | some j =>
            obtain ⟨hj1, hj2, _⟩ := cend_some hce
            have HR2 : Hid (∀ R, Scans l j ts R → R = R0) := fun R h => HR.out R (.go (t := none) hlt (by rw [hst, hce]) (by simpa using h))
            have hv : cendV l k = j := by unfold cendV; rw [hce]; rfl
            rw [hv] at H1
            have hj0 : ((j : Int) == 0) = false := beq_eq_false_iff_ne.2 (by omega)
            clear hv hce hst hcm hq hbl q1 q2 q3 q4 HR
            go_wp2_with fail
            refine (H1.out _).mono ?_
            rintro e w2 ⟨rfl, hw⟩
            have hw1 := hw.symm
            clear hw
            subst hw1
            go_wp2
            go_roundw
            case rel => exact ⟨j, n, co, oo, ts, rfl, rfl, by omega, by omega, HN.out, HO.out, HB.out, HR2.out⟩
            case measure => simp [intOf]; omega
        · have H1 : Hid (Calls Try.prog 19 #[S l, .int .i64 k] wr (OnePost (stepS l k) wr)) := one_any l k wr hlt hl hbl hcm
          have hcq : (((l.getD k 0).toNat : Int) == 47) = false ∨ ((((l.getD k 0).toNat : Int) == 47) = true ∧ decide (k + 1 < l.length) = false ∧ decide ((k : Int) + 1 < l.length) = false) ∨ ((((l.getD k 0).toNat : Int) == 47) = true ∧ k + 1 < l.length ∧ (((l.getD (k + 1) 0).toNat : Int) == 42) = false) := by
            by_cases h47 : l.getD k 0 = 47
            · by_cases hk1 : k + 1 < l.length
              · exact .inr (.inr ⟨by rw [h47]; rfl, hk1, (byte_eq _ 42).trans (by simpa using fun h => hcm ⟨h47, h⟩)⟩)
              · exact .inr (.inl ⟨by rw [h47]; rfl, decide_eq_false hk1, decide_eq_false (by omega)⟩)
            · exact .inl ((byte_eq _ 47).trans (by simpa using h47))
          have HSZ : Hid (W.heap.size ≤ wr.heap.size) := HB.out.size
          have hslt := fun t j (h : stepS l k = .go t j) => step_lt hlt h
          cases hst : stepS l k with
          | err r =>
            have HF : Hid (Res.err r k = R0) := HR.out _ (.err hlt hst)
            have hrk := fault_kinds hst
            have hr0 : (r == 0) = false := beq_eq_false_iff_ne.2 (by omega)
            rw [hst] at H1
            clear hst hcm hq hbl HR hslt hrk
            have hcs3 : ∀ h : k + 1 < l.length, ({ data := l.toArray } : ByteArray)[k + 1]'h = l.getD (k + 1) 0 := fun h => (getD_lt h).symm
            generalize l.getD (k + 1) 0 = d2 at *
            generalize l.getD k 0 = d at *
            rcases hcq with hc1 | ⟨hc1, hc2, hc3⟩ | ⟨hc1, hc2, hc3⟩
            rotate_left 2
            · have hc4 : (k : Int) + 1 < l.length := by omega
              have hcs4 := hcs3 hc2
              clear hcs3
              go_wp2_with fail
              refine H1.out.mono ?_
              rintro e w2 ⟨hB2, rfl⟩
              have HB2 : Hid (Below W.heap.size W w2) := HB.out.trans (hB2.mono HSZ.out)
              have HSZ2 : Hid (wr.heap.size ≤ w2.heap.size) := hB2.size
              clear hB2
              go_wp2
              go_ret3
              rw [← HF.out]
              exact ⟨rfl, HB2.out.alloc (Nat.le_trans HSZ.out HSZ2.out) _⟩
            all_goals (
              clear hcs3
              go_wp2_with fail
              refine H1.out.mono ?_
              rintro e w2 ⟨hB2, rfl⟩
              have HB2 : Hid (Below W.heap.size W w2) := HB.out.trans (hB2.mono HSZ.out)
              have HSZ2 : Hid (wr.heap.size ≤ w2.heap.size) := hB2.size
              clear hB2
              go_wp2
              go_ret3
              rw [← HF.out]
              exact ⟨rfl, HB2.out.alloc (Nat.le_trans HSZ.out HSZ2.out) _⟩)
          | go t j =>
            cases t with
            | none => exact (step_some hbl hcm hst).elim
            | some t =>
              obtain ⟨hj1, hj2⟩ := hslt _ _ hst
              have HR2 : Hid (∀ R, Scans l j (ts ++ [t]) R → R = R0) := fun R h => HR.out R (.go hlt hst h)
              rw [hst] at H1
              clear hst hcm hq hbl HR hslt
              have hcs3 : ∀ h : k + 1 < l.length, ({ data := l.toArray } : ByteArray)[k + 1]'h = l.getD (k + 1) 0 := fun h => (getD_lt h).symm
              generalize l.getD (k + 1) 0 = d2 at *
              generalize l.getD k 0 = d at *
              rcases hcq with hc1 | ⟨hc1, hc2, hc3⟩ | ⟨hc1, hc2, hc3⟩
              rotate_left 2
              · have hc4 : (k : Int) + 1 < l.length := by omega
                have hcs4 := hcs3 hc2
                clear hcs3
                go_wp2_with fail
                refine H1.out.mono ?_
                rintro e w2 ⟨hB2, rfl⟩
                have HB3 : Hid (Below wr.heap.size wr w2) := hB2
                clear hB2
                go_wp2_with (at_builtin; refine Hid.out ?_)
                refine (show Hid _ from ?_)
                refine wpList_append_lies _ rfl _ _ 25 rfl W.heap.size 37 inf (.agg #[.int .i64 0, .string ⟨#[]⟩, .int .i64 0, .int .i64 0]) 4 40 Try.underlying25 HI.out.1 HI.out.2.1 HI.out.2.2.1 HI.out.2.2.2 rfl (by decide) (.slice oo n co) n (tokCells ts) rfl (own_later HO.out ((HB3.out.alloc HB3.out.size _).alloc (by have := HB3.out.size; simp; omega) _)) ⟨w2.heap.size + 1, 0, none⟩ 1 1 (tokC t) rfl rfl (World.news_of_block (cs := #[.int .i64 t.kind, S t.text, .int .i64 t.num, .int .i64 t.at_]) (t := 37) (fr := (0, 0)) (heap_new2 _ _ _)) (by simp [tokC, Value.oneCell']) (by omega) (by unfold maxLen; omega) (by omega) (by have h1 := HB.out.size; have h2 := HB3.out.size; simp; omega) _ rfl ?_
                intro g3 cap3 w4 hown hgrow hat hlt3
                have hps := part_step HO.out HB.out HB3.out rfl hgrow
                have HB4 : Hid (Below W.heap.size W w4) := hps.2
                have HO4 : Hid (w4.ownsRow W.heap.size 37 4 (.slice (some ⟨g3, 0, none⟩) (n + 1) cap3) (n + 1) (tokCells (ts ++ [t]))) := by
                  show World.ownsRow _ _ _ _ _ _ _
                  rw [tokCells_snoc]
                  exact hown
                clear hown hgrow hat hlt3 hps
                go_wp2
                go_roundw
                case rel => exact ⟨j, n + 1, cap3, some ⟨g3, 0, none⟩, ts ++ [t], rfl, rfl, by omega, by omega, by show _ = _; rw [List.length_append, HN.out]; rfl, HO4.out, HB4.out, HR2.out⟩
                case measure => simp [intOf]; omega
              all_goals (
                clear hcs3
                go_wp2_with fail
                refine H1.out.mono ?_
                rintro e w2 ⟨hB2, rfl⟩
                have HB3 : Hid (Below wr.heap.size wr w2) := hB2
                clear hB2
                go_wp2_with (at_builtin; refine Hid.out ?_)
                refine (show Hid _ from ?_)
                refine wpList_append_lies _ rfl _ _ 25 rfl W.heap.size 37 inf (.agg #[.int .i64 0, .string ⟨#[]⟩, .int .i64 0, .int .i64 0]) 4 40 Try.underlying25 HI.out.1 HI.out.2.1 HI.out.2.2.1 HI.out.2.2.2 rfl (by decide) (.slice oo n co) n (tokCells ts) rfl (own_later HO.out ((HB3.out.alloc HB3.out.size _).alloc (by have := HB3.out.size; simp; omega) _)) ⟨w2.heap.size + 1, 0, none⟩ 1 1 (tokC t) rfl rfl (World.news_of_block (cs := #[.int .i64 t.kind, S t.text, .int .i64 t.num, .int .i64 t.at_]) (t := 37) (fr := (0, 0)) (heap_new2 _ _ _)) (by simp [tokC, Value.oneCell']) (by omega) (by unfold maxLen; omega) (by omega) (by have h1 := HB.out.size; have h2 := HB3.out.size; simp; omega) _ rfl ?_
                intro g3 cap3 w4 hown hgrow hat hlt3
                have hps := part_step HO.out HB.out HB3.out rfl hgrow
                have HB4 : Hid (Below W.heap.size W w4) := hps.2
                have HO4 : Hid (w4.ownsRow W.heap.size 37 4 (.slice (some ⟨g3, 0, none⟩) (n + 1) cap3) (n + 1) (tokCells (ts ++ [t]))) := by
                  show World.ownsRow _ _ _ _ _ _ _
                  rw [tokCells_snoc]
                  exact hown
                clear hown hgrow hat hlt3 hps
                go_wp2
                go_roundw
                case rel => exact ⟨j, n + 1, cap3, some ⟨g3, 0, none⟩, ts ++ [t], rfl, rfl, by omega, by omega, by show _ = _; rw [List.length_append, HN.out]; rfl, HO4.out, HB4.out, HR2.out⟩
                case measure => simp [intOf]; omega)
    · obtain rfl : k = l.length := by omega
      have HF : Hid (Res.ok (ts ++ [⟨5, [], 0, l.length⟩]) = R0) := HR.out _ (.done (Nat.le_refl _))
      clear HR
      go_wp2_with (at_builtin; refine Hid.out ?_)
      refine (show Hid _ from ?_)
      refine wpList_append_lies _ rfl _ _ 25 rfl W.heap.size 37 inf (.agg #[.int .i64 0, .string ⟨#[]⟩, .int .i64 0, .int .i64 0]) 4 40 Try.underlying25 HI.out.1 HI.out.2.1 HI.out.2.2.1 HI.out.2.2.2 rfl (by decide) (.slice oo n co) n (tokCells ts) rfl (HO.out.alloc _) ⟨wr.heap.size, 0, none⟩ 1 1 (tokC ⟨5, [], 0, l.length⟩) rfl rfl (World.news_of_block (cs := #[.int .i64 5, S [], .int .i64 0, .int .i64 l.length]) (t := 37) (fr := (0, 0)) (heap_alloc_new _ _)) (by simp [tokC, Value.oneCell']) (by omega) (by unfold maxLen; omega) (by omega) (by have h1 := HB.out.size; simp; omega) _ rfl ?_
      intro g3 cap3 w4 hown hgrow hat hlt3
      have HB4 : Hid (Below W.heap.size W w4) := (HB.out.alloc HB.out.size _).grown hgrow (by have h1 := HB.out.size; simp; omega) (fun q hq => (HO.out.lt q hq).1)
      have HO4 : Hid (w4.ownsRow W.heap.size 37 4 (.slice (some ⟨g3, 0, none⟩) (n + 1) cap3) (n + 1) (tokCells (ts ++ [⟨5, [], 0, l.length⟩]))) := by
        show World.ownsRow _ _ _ _ _ _ _
        rw [tokCells_snoc]
        exact hown
      have HLN : Hid ((ts ++ [(⟨5, [], 0, l.length⟩ : Tok)]).length = n + 1) := by show _ = _; rw [List.length_append, HN.out]; rfl
      clear hown hgrow hat hlt3
      go_wp2
      go_ret3
      rw [← HF.out]
      refine ⟨g3, cap3, ?_, ?_, HB4.out⟩
      · rw [HLN.out]; rfl
      · rw [HLN.out]; exact HO4.out

theorem rscan_any (l : List UInt8) (w : World) : Calls Try.prog 7 #[S l] w (ScanPost (scanP l) w) := by
  rcases Nat.lt_or_ge 16000 l.length with h | h
  · exact rscan_long l w h
  · exact rscan_short l w h

end Go.Proofs.Ythnnmgiihpdblab
