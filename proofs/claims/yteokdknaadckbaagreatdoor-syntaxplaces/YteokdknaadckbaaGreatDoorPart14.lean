/- The program's Scan. The program's Parse: what is deferred; the tokens as the parser has them. The program's Parse: what is deferred. The program's Parse. -/
import Derived.Test.YteokdknaadckbaaGreatDoorPart13
import Derived.Test.YteokdknaadckbaaGreatDoorPart12
import Derived.Defers
import Derived.Recover
import Derived.Laws.Pointers
namespace Go.Proofs.YteokdknaadckbaaGreatDoor.Lx
open Go.RowKit

theorem mach_take {l : List UInt8} {k st frm : Nat} {ts : List Tok} (h : k < l.length) : machP l (l.drop k) k st frm ts = if (takeR l (l.getD k 0) st frm k ts).1 = 0 then machP l (l.drop (k + 1)) (k + 1) (takeR l (l.getD k 0) st frm k ts).2.1 (takeR l (l.getD k 0) st frm k ts).2.2.1 (takeR l (l.getD k 0) st frm k ts).2.2.2 else .err (takeR l (l.getD k 0) st frm k ts).1 frm := by
  rw [drop_cons h, machP]
  unfold takeR
  split
  · rfl
  split
  · rfl
  · rfl

theorem fits_take {l : List UInt8} {k st frm : Nat} {ts : List Tok} (hf : Fits l k st frm) (hle : frm ≤ k) (h0 : (takeR l (l.getD k 0) st frm k ts).1 = 0) :
    Fits l (k + 1) (takeR l (l.getD k 0) st frm k ts).2.1 (takeR l (l.getD k 0) st frm k ts).2.2.1 ∧ (takeR l (l.getD k 0) st frm k ts).2.2.1 ≤ k + 1 := by
  unfold takeR at h0 ⊢
  split
  · rename_i hg
    refine ⟨?_, by simp only; omega⟩
    rcases hf.on hg with ⟨h1, _, _⟩ | ⟨_, _, h2⟩
    · simp only; rw [h1]; trivial
    · exact h2
  · rename_i hg
    rw [if_neg hg] at h0
    split
    · exact ⟨Fits.first, by simp only; omega⟩
    · rename_i h1
      rw [if_neg h1] at h0
      exact absurd h0 h1

theorem _root_.Go.Proofs.YteokdknaadckbaaGreatDoor.Fits.le8 {l : List UInt8} {k st frm : Nat} (h : Fits l k st frm) : st ≤ 8 := by
  match st, h with
  | 0, _ => omega
  | 1, _ => omega
  | 2, _ => omega
  | 3, _ => omega
  | 4, _ => omega
  | 5, _ => omega
  | 6, _ => omega
  | 7, _ => omega
  | 8, _ => omega
  | n + 9, h => exact h.elim

theorem take_more {l : List UInt8} {k st frm : Nat} {ts : List Tok} {c : UInt8} : (takeR l c st frm k ts).2.2.2.length ≤ ts.length + 1 := by
  have hO : ∀ o : Option Tok, o.toList.length ≤ 1 := fun o => by cases o <;> simp
  have := hO (endP l st frm k).2
  unfold takeR
  repeat' split
  · simp
  · simp only [List.length_append]; omega
  · simp only [List.length_append]; omega

theorem sub_getD0 {l : List UInt8} {i j : Nat} (h : i < j) : (sub l i j).getD 0 0 = l.getD i 0 := by
  unfold sub
  rw [List.getD_eq_getElem?_getD, List.getD_eq_getElem?_getD, List.getElem?_take, if_pos (by omega), List.getElem?_drop, Nat.add_zero]

theorem _root_.Go.Proofs.YteokdknaadckbaaGreatDoor.Fits.num {l : List UInt8} {k st frm : Nat} (h : Fits l k st frm) (hk : k ≤ l.length) : st = 5 → 0 < (sub l frm k).length ∧ ((sub l frm k).getD 0 0 = 45 → 1 < (sub l frm k).length) := by
  rintro rfl
  obtain ⟨h1, h2, h3, h4⟩ := h
  rw [sub_length (by omega) hk]
  refine ⟨by omega, fun h45 => ?_⟩
  rw [sub_getD0 h1] at h45
  have : numAt l frm = frm + 1 := by unfold numAt; rw [if_pos h45]
  omega

theorem Kept.below {B p : Nat} {v v' : Value} {w w1 w2 : World} (hB : Below B w w1) (hK : Kept p v v' w1 w2) (hw : B ≤ w1.heap.size) (hp : B ≤ p) (hv : ∀ g, v.ownBlock = some g → B ≤ g) : Below B w w2 :=
  ⟨hK.os.trans hB.os, hK.tape.trans hB.tape, hK.output.trans hB.output, Nat.le_trans hB.size hK.size, fun b hb => (hK.block b (by omega) (by omega) (fun e => by have := hv b e.symm; omega)).trans (hB.block b hb)⟩

theorem below_drewN {B : Nat} {a w : World} (h : Below B a w) (k : Nat) : Below B a (w.drewN k) := ⟨h.os, h.tape, h.output, h.size, h.block⟩

def ScanPost (R : Res) (w : World) (e : Ending) (w' : World) : Prop :=
  match R with
  | .ok ts => ∃ g cap, e = .returned (.tuple #[.slice (some ⟨g, 0, none⟩) ts.length cap, .int .i64 0, .int .i64 0]) ∧ w'.ownsRow w.heap.size 41 4 (.slice (some ⟨g, 0, none⟩) ts.length cap) ts.length (tokCells ts) ∧ Below w.heap.size w w'
  | .err r i => e = .returned (.tuple #[.slice none 0 0, .int .i64 r, .int .i64 i]) ∧ Below w.heap.size w w'

theorem own_base {w : World} {base base' n : Nat} {e : TypeId} {size : Nat} {v : Value} {xs : List Value} (h : w.ownsRow base e size v n xs) (hb : base' ≤ base) : w.ownsRow base' e size v n xs := by
  refine ⟨h.1, ?_⟩
  rcases h.2 with h2 | ⟨g, cap, cur, h3, h4, h5⟩
  · exact .inl h2
  · exact .inr ⟨g, cap, cur, h3, Nat.le_trans hb h4, h5⟩

theorem SC.made (l : List UInt8) (w : World) : SC (w.alloc (.cells #[S l, .int .i64 0, .int .i64 0, .slice none 0 0] 64)) w.heap.size l 0 0 (.slice none 0 0) [] := by
  have hb : (w.alloc (.cells #[S l, .int .i64 0, .int .i64 0, .slice none 0 0] 64)).heap[w.heap.size]? = some (.cells #[S l, .int .i64 0, .int .i64 0, .slice none 0 0] 64 (0, 0)) := heap_alloc_new _ _
  refine ⟨?_, ?_, ?_, ?_, ?_, ?_, ?_, World.ownsRow_nil _ _ _ _⟩
  · unfold World.cell?; rw [hb]; rfl
  · unfold World.cell?; rw [hb]; rfl
  · unfold World.cell?; rw [hb]; rfl
  · unfold World.cell?; rw [hb]; rfl
  · unfold World.frozen?; rw [hb]; rfl
  · unfold World.frozen?; rw [hb]; rfl
  · unfold World.frozen?; rw [hb]; rfl

theorem scan_long (l : List UInt8) (w : World) (h : 16000 < l.length) : Calls Tryz.prog 16 #[S l] w (ScanPost (scanP l) w) := by
  unfold scanP
  rw [if_pos h]
  have h' : (16000 : Int) < l.length := by omega
  go_enter Tryz.func16, Tryz.ntmps16
  go_wp2
  go_ret3
  exact ⟨rfl, Below.refl _ _⟩

set_option maxHeartbeats 4000000 in
theorem scan_short (l : List UInt8) (w : World) (h : l.length ≤ 16000) : Calls Tryz.prog 16 #[S l] w (ScanPost (scanP l) w) := by
  obtain ⟨R, hR⟩ : ∃ R, machP l l 0 0 0 [] = R := ⟨_, rfl⟩
  unfold scanP
  rw [if_neg (by omega), hR]
  have HR : Hid (machP l l 0 0 0 [] = R) := hR
  clear hR
  have h' : (l.length : Int) ≤ 16000 := by omega
  have hd : decide ((16000 : Int) < l.length) = false := decide_eq_false (by omega)
  obtain ⟨inf, hi1, hi2, hi3, hi4⟩ := info37_ex
  have HI : Hid (Tryz.prog.info? 41 = some inf ∧ inf.zero = some (.agg #[.int .i64 0, .string ⟨#[]⟩, .int .i64 0, .int .i64 0]) ∧ inf.size = 4 ∧ inf.bytes = 40) := ⟨hi1, hi2, hi3, hi4⟩
  clear hi1 hi2 hi3 hi4
  go_enter Tryz.func16, Tryz.ntmps16
  go_wp2_with fail
  clear hd
  go_loopw [16] (fun i wr => ∃ (k st frm : Nat) (v : Value) (ts : List Tok), i = .int .i64 k ∧ k ≤ l.length ∧ frm ≤ k ∧ ts.length ≤ k ∧ Hid (SC wr w.heap.size l st frm v ts) ∧ Hid (Below w.heap.size w wr) ∧ Hid (Fits l k st frm) ∧ Hid (machP l (l.drop k) k st frm ts = R)) (fun i _ => l.length - (intOf i).toNat)
  case atStart => exact ⟨0, 0, 0, .slice none 0 0, [], rfl, by omega, by omega, by simp, SC.made l w, (Below.refl _ _).alloc (Nat.le_refl _) _, trivial, HR.out⟩
  case round =>
    obtain ⟨k, st, frm, v, ts, rfl, hk, hfk, htk, HS, HB, HF, HM⟩ := hrel
    have hvb : ∀ g, v.ownBlock = some g → w.heap.size ≤ g := fun g hg => by have := (HS.out.own.lt g hg).1; omega
    have HVB : Hid (∀ g, v.ownBlock = some g → w.heap.size ≤ g) := hvb
    have HSZ : Hid (w.heap.size ≤ wr.heap.size) := HB.out.size
    clear hvb
    by_cases hlt : k < l.length
    · have hk' : (k : Int) < l.length := by omega
      have HT : Hid (Calls Tryz.prog 33 #[.pointer (some ⟨w.heap.size, 0, none⟩), .int .i64 k] wr (TakePost w.heap.size l v (takeR l (l.getD k 0) st frm k ts) wr)) := take_any w.heap.size l st frm k v ts wr HS.out (by omega) HF.out.le8 hfk hlt (by omega) (HF.out.num (by omega))
      have hm0 := HM.out
      rw [mach_take hlt] at hm0
      have hft0 := fun h0 => fits_take (ts := ts) HF.out hfk h0
      have hmo : (takeR l (l.getD k 0) st frm k ts).2.2.2.length ≤ ts.length + 1 := take_more
      have hfe : (takeR l (l.getD k 0) st frm k ts).1 ≠ 0 → (takeR l (l.getD k 0) st frm k ts).2.2.1 = frm := fun h0 => by
        unfold takeR at h0 ⊢
        split
        · rfl
        split
        · rename_i h1 h2; rw [if_neg h1, if_pos h2] at h0; exact absurd rfl h0
        · rfl
      generalize takeR l (l.getD k 0) st frm k ts = r at *
      obtain ⟨r1, st2, frm2, ts2⟩ := r
      simp only at hm0 hft0 hmo hfe
      clear HF HM HS
      by_cases hr : r1 = 0
      · subst hr
        rw [if_pos rfl] at hm0
        have HM2 : Hid (machP l (l.drop (k + 1)) (k + 1) st2 frm2 ts2 = R) := hm0
        have HF2 : Hid (Fits l (k + 1) st2 frm2) := (hft0 rfl).1
        have hf2 := (hft0 rfl).2
        clear hm0 hft0 hfe
        go_wp2_with fail
        refine HT.out.mono ?_
        rintro e w2 ⟨rfl, v', h1, h2⟩
        have HS2 : Hid (SC w2 w.heap.size l st2 frm2 v' ts2) := h1
        have HB2 : Hid (Below w.heap.size w w2) := h2.below HB.out HSZ.out (Nat.le_refl _) HVB.out
        clear h1 h2
        go_wp2
        go_roundw
        case rel => exact ⟨k + 1, st2, frm2, v', ts2, by go_num, by omega, hf2, by omega, HS2.out, HB2.out, HF2.out, HM2.out⟩
        case measure => simp [intOf]; omega
      · rw [if_neg hr] at hm0
        have HM2 : Hid (Res.err r1 frm = R) := hm0
        have hr1 : (r1 == 0) = false := by simpa using hr
        obtain rfl := hfe hr
        clear hm0 hft0 hr hfe
        go_wp2_with fail
        refine HT.out.mono ?_
        rintro e w2 ⟨rfl, v', h1, h2⟩
        have hc2 := h1.f
        have HB2 : Hid (Below w.heap.size w w2) := h2.below HB.out HSZ.out (Nat.le_refl _) HVB.out
        clear h1 h2
        go_wp2_with fail
        go_quiet (fail)
        go_wp2
        go_ret3
        rw [← HM2.out]
        exact ⟨rfl, below_drewN HB2.out _⟩
    · obtain rfl : k = l.length := by omega
      have HT : Hid (Calls Tryz.prog 34 #[.pointer (some ⟨w.heap.size, 0, none⟩), .int .i64 l.length] wr (EndPost w.heap.size l st frm v ts (endP l st frm l.length) wr)) := end_any w.heap.size l st frm l.length v ts wr HS.out (by omega) HF.out.le8 hfk (Nat.le_refl _) (by omega) (HF.out.num (Nat.le_refl _))
      have hm0 := HM.out
      rw [List.drop_length, machP] at hm0
      have hol : (endP l st frm l.length).2.toList.length ≤ 1 := by cases (endP l st frm l.length).2 <;> simp
      generalize endP l st frm l.length = r at *
      obtain ⟨r1, r2⟩ := r
      simp only at hm0 hol
      clear HF HM HS
      by_cases hr : r1 = 0
      · subst hr
        rw [if_pos rfl] at hm0
        have HM2 : Hid (Res.ok (ts ++ r2.toList ++ [⟨5, [], 0, l.length⟩]) = R) := hm0
        clear hm0
        go_wp2_with fail
        refine HT.out.mono ?_
        rintro e w2 ⟨rfl, v', h1, h2⟩
        have HB2 : Hid (Below w.heap.size w w2) := h2.below HB.out HSZ.out (Nat.le_refl _) HVB.out
        have hc3 := h1.t
        obtain ⟨oa, cap0, hv⟩ := own_form h1.own
        obtain ⟨us, hus⟩ : ∃ us, ts ++ r2.toList = us := ⟨_, rfl⟩
        have hul : us.length ≤ 16001 := by rw [← hus, List.length_append]; omega
        rw [hus] at HM2 h1 hv
        have HO : Hid (SC w2 w.heap.size l st frm v' us) := h1
        obtain ⟨N, hN⟩ : ∃ N, us.length = N := ⟨_, rfl⟩
        rw [hN] at hv hul
        have HN : Hid (us.length = N) := hN
        have HV : Hid (v' = .slice oa N cap0) := hv
        have HOO : Hid (∀ w3 : World, (∀ b, b < w2.heap.size → w3.heap[b]? = w2.heap[b]?) → w3.ownsRow (w.heap.size + 1) 41 4 v' N (tokCells us)) := fun w3 h3 => by
          have ho := h1.own
          rw [hN] at ho
          refine ⟨ho.1, ?_⟩
          rcases ho.2 with hn | ⟨g, cap, cur, rfl, hb, hgg, rest⟩
          · exact .inl hn
          · exact .inr ⟨g, cap, cur, rfl, hb, by rw [h3 g (Array.getElem?_eq_some_iff.1 hgg).1]; exact hgg, rest⟩
        have HSZ2 : Hid (w.heap.size + 1 ≤ w2.heap.size) := h1.lt
        have HVB2 : Hid (∀ g, v'.ownBlock = some g → w.heap.size ≤ g) := fun g hg => by have := (h1.own.lt g hg).1; omega
        rw [hv] at hc3
        clear h1 h2 hv hN hus hol
        go_wp2_with (at_builtin; refine Hid.out ?_)
        refine (show Hid _ from ?_)
        refine wpList_append_lies _ rfl _ _ 37 rfl (w.heap.size + 1) 41 inf (.agg #[.int .i64 0, .string ⟨#[]⟩, .int .i64 0, .int .i64 0]) 4 40 Tryz.underlying37 HI.out.1 HI.out.2.1 HI.out.2.2.1 HI.out.2.2.2 rfl (by decide) v' N (tokCells us) (by rw [HV.out]; rfl) (HOO.out _ (fun b hb => Below.heap_alloc _ _ b hb)) ⟨w2.heap.size, 0, none⟩ 1 1 (tokC ⟨5, [], 0, l.length⟩) rfl rfl (World.news_of_block (cs := #[.int .i64 5, S [], .int .i64 0, .int .i64 l.length]) (t := 41) (fr := (0, 0)) (heap_alloc_new _ _)) (by simp [tokC, Value.oneCell']) (by omega) (by unfold maxLen; omega) (by omega) (by have := HSZ2.out; simp; omega) _ rfl ?_
        intro g cap w3 hown hgrow hat hlt3
        have HOW : Hid (w3.ownsRow w.heap.size 41 4 (.slice (some ⟨g, 0, none⟩) (N + 1) cap) (N + 1) (tokCells us ++ tokC ⟨5, [], 0, l.length⟩)) := own_base hown (by omega)
        have HB3 : Hid (Below w.heap.size w w3) := (HB2.out.alloc (by have := HSZ2.out; omega) _).grown hgrow (by have := HSZ2.out; simp; omega) HVB2.out
        clear hown hgrow hat hlt3
        go_wp2
        go_ret3
        rw [← HM2.out]
        refine ⟨g, cap, ?_, ?_, HB3.out⟩
        · rw [show (us ++ [(⟨5, [], 0, l.length⟩ : Tok)]).length = N + 1 by rw [List.length_append, HN.out]; rfl]; rfl
        · rw [show (us ++ [(⟨5, [], 0, l.length⟩ : Tok)]).length = N + 1 by rw [List.length_append, HN.out]; rfl, tokCells_snoc]; exact HOW.out
      · rw [if_neg hr] at hm0
        have HM2 : Hid (Res.err r1 frm = R) := hm0
        have hr1 : (r1 == 0) = false := by simpa using hr
        clear hm0 hr
        go_wp2_with fail
        refine HT.out.mono ?_
        rintro e w2 ⟨rfl, v', h1, h2⟩
        have hc2 := h1.f
        have HB2 : Hid (Below w.heap.size w w2) := h2.below HB.out HSZ.out (Nat.le_refl _) HVB.out
        clear h1 h2
        go_wp2_with fail
        go_quiet (fail)
        go_wp2
        go_ret3
        rw [← HM2.out]
        exact ⟨rfl, below_drewN HB2.out _⟩

theorem scan_any (l : List UInt8) (w : World) : Calls Tryz.prog 16 #[S l] w (ScanPost (scanP l) w) := by
  rcases Nat.lt_or_ge 16000 l.length with h | h
  · exact scan_long l w h
  · exact scan_short l w h

end Go.Proofs.YteokdknaadckbaaGreatDoor.Lx
namespace Go.Proofs.YteokdknaadckbaaGreatDoor
open Go.RowKit
open Lx (S tokC tokCells tokCells_len)

theorem scans_len {l : List UInt8} {i : Nat} {ts vs : List Tok} {R : Res} (h : Scans l i ts R) (hR : R = .ok vs) : vs.length ≤ ts.length + (l.length - i) + 1 := by
  induction h with
  | done h => cases hR; simp
  | err h hs => cases hR
  | go h hs hr ih =>
    have h1 := ih hR
    have h2 := step_lt h hs
    rename_i t j _
    have h3 : t.toList.length ≤ 1 := by cases t <;> simp
    simp only [List.length_append] at h1
    omega
theorem scan_ok {l : List UInt8} {ts : List Tok} (h : scanP l = .ok ts) : l.length ≤ 16000 ∧ ts.length ≤ 16001 ∧ Ends ts ∧ 0 < ts.length := by
  have hl : l.length ≤ 16000 := by
    rcases Nat.lt_or_ge 16000 l.length with h1 | h1
    · unfold scanP at h; rw [if_pos h1] at h; cases h
    · exact h1
  have hs := scanP_scans hl
  rw [h] at hs
  have h1 := scans_len hs rfl
  obtain ⟨us, rfl⟩ := ok_last hs rfl
  simp only [List.length_nil] at h1
  refine ⟨hl, by omega, ?_, by simp⟩
  intro j hj hl2
  have hj2 : j = us.length := by simp at hj hl2; omega
  subst hj2
  simp
theorem tokCells_get (ts : List Tok) : ∀ (j : Nat) (h : j < ts.length), (tokCells ts)[j * 4]? = some (.int .i64 ts[j].kind) ∧ (tokCells ts)[j * 4 + 1]? = some (S ts[j].text) ∧ (tokCells ts)[j * 4 + 2]? = some (.int .i64 ts[j].num) ∧ (tokCells ts)[j * 4 + 3]? = some (.int .i64 ts[j].at_) := by
  induction ts with
  | nil => intro j h; simp at h
  | cons t ts ih =>
    intro j h
    cases j with
    | zero => simp [tokCells, tokC]
    | succ j =>
      have hx := ih j (by simp at h; omega)
      have e : tokCells (t :: ts) = tokC t ++ tokCells ts := by simp [tokCells]
      have hl : (tokC t).length = 4 := rfl
      rw [e]
      refine ⟨?_, ?_, ?_, ?_⟩
      · rw [List.getElem?_append_right (by rw [hl]; omega), hl, show (j + 1) * 4 - 4 = j * 4 by omega]; exact hx.1
      · rw [List.getElem?_append_right (by rw [hl]; omega), hl, show (j + 1) * 4 + 1 - 4 = j * 4 + 1 by omega]; exact hx.2.1
      · rw [List.getElem?_append_right (by rw [hl]; omega), hl, show (j + 1) * 4 + 2 - 4 = j * 4 + 2 by omega]; exact hx.2.2.1
      · rw [List.getElem?_append_right (by rw [hl]; omega), hl, show (j + 1) * 4 + 3 - 4 = j * 4 + 3 by omega]; exact hx.2.2.2
theorem PP.made {w : World} {base g cap : Nat} {ts : List Tok} (ho : w.ownsRow base 41 4 (.slice (some ⟨g, 0, none⟩) ts.length cap) ts.length (tokCells ts)) (h1 : ts.length ≤ 16001) (h0 : 0 < ts.length) :
    PP (w.alloc (.cells #[.slice (some ⟨g, 0, none⟩) ts.length cap, .int .i64 0, .int .i64 0, .bool false] 53)) w.heap.size g cap ts 0 0 false := by
  have hg : g < w.heap.size := (ho.lt g rfl).2
  have hc : ∀ o, (w.alloc (.cells #[.slice (some ⟨g, 0, none⟩) ts.length cap, .int .i64 0, .int .i64 0, .bool false] 53)).cell? ⟨g, o, none⟩ = w.cell? ⟨g, o, none⟩ := fun o => World.cell?_alloc_lt _ _ _ hg
  refine ⟨by simp, by simp, by simp, by simp, by simp, by simp, by simp, ?_, ?_, ?_, ?_, h0, h1, Nat.ne_of_lt hg⟩
  · intro j h; rw [hc, ho.cellAt _ (by omega)]; exact (tokCells_get ts j h).1
  · intro j h; rw [hc, ho.cellAt _ (by omega)]; exact (tokCells_get ts j h).2.1
  · intro j h; rw [hc, ho.cellAt _ (by omega)]; exact (tokCells_get ts j h).2.2.1
  · intro j h; rw [hc, ho.cellAt _ (by omega)]; exact (tokCells_get ts j h).2.2.2
end Go.Proofs.YteokdknaadckbaaGreatDoor
namespace Go.Proofs.YteokdknaadckbaaGreatDoor
open Go.RowKit

theorem assert_fault (a b : Int) (w : World) : (Instr.typeAssert (.iface 50 (.agg #[.int .i64 a, .int .i64 b])) 20 50 true).run Tryz.prog w = .ok (.tuple #[.agg #[.int .i64 a, .int .i64 b], .bool true]) w := by kernel_rfl
theorem assert_none (w : World) : (Instr.typeAssert .nilIface 20 50 true).run Tryz.prog w = .ok (.tuple #[.agg #[.int .i64 0, .int .i64 0], .bool false]) w := by kernel_rfl
theorem bldz (w : World) : (Instr.build 29 #[]).run Tryz.prog w = .ok (.agg #[.int .i64 0, .string ⟨#[]⟩, .int .i64 0, .int .i64 0, .slice none 0 0]) w := by kernel_rfl
/-- a variable of one number -/
def oneO (x : Int) (t : TypeId) : Obj := .cells #[.int .i64 x] t (0, 0)
theorem one_cells {w : World} {b : Nat} {x : Int} {t : TypeId} (h : w.heap[b]? = some (oneO x t)) : w.cell? ⟨b, 0, none⟩ = some (.int .i64 x) ∧ w.frozen? ⟨b, 0, none⟩ = false := by
  unfold oneO at h
  simp [World.cell?, World.frozen?, h]

set_option maxHeartbeats 2000000 in
set_option maxRecDepth 4000 in
theorem catch_fault (tb eb ab : Nat) (why : Int) (at_ : Nat) (older : List PanicEntry) (w : World) (k9 : Int) (n9 : List UInt8) (m9 : Int) (a9 : Nat) (sl : Value) (x y : Int) (ht : w.heap[tb]? = some (kidO k9 n9 m9 a9 sl)) (he : w.heap[eb]? = some (oneO x 30)) (ha : w.heap[ab]? = some (oneO y 3)) (h1 : tb ≠ eb) (h2 : tb ≠ ab) (h3 : eb ≠ ab) :
    CallsD Tryz.prog 25 #[.pointer (some ⟨tb, 0, none⟩), .pointer (some ⟨eb, 0, none⟩), .pointer (some ⟨ab, 0, none⟩)] (.panicking ({ v := .iface 50 (.agg #[.int .i64 why, .int .i64 at_]), recovered := false } :: older)) w fun e u' w' =>
      e = .returned (.tuple #[]) ∧ u' = .panicking ({ v := .iface 50 (.agg #[.int .i64 why, .int .i64 at_]), recovered := true } :: older) ∧
      (w'.heap[tb]? = some (kidO 0 [] 0 0 (.slice none 0 0)) ∧ w'.heap[eb]? = some (oneO why 30) ∧ w'.heap[ab]? = some (oneO at_ 3)) ∧ (∀ b, b < w.heap.size → b ≠ tb → b ≠ eb → b ≠ ab → w'.heap[b]? = w.heap[b]?) ∧ w'.os = w.os ∧ w'.tape = w.tape ∧ w'.output = w.output ∧ w.heap.size ≤ w'.heap.size := by
  have qa := assert_fault why at_
  have HW : Hid (w.heap[tb]? = some (kidO k9 n9 m9 a9 sl) ∧ w.heap[eb]? = some (oneO x 30) ∧ w.heap[ab]? = some (oneO y 3)) := ⟨ht, he, ha⟩
  refine callsD_of_wpS Tryz.func25 rfl fun c₀ cs hu => ?_
  clear ht he ha
  apply wpS_seq
  apply wpS_region
  simp [wpOpsS, go_sem, recoverD, hu, Tryz.ntmps25, Exit.thenS, Array.replicate, qa]
  obtain ⟨wa, hwa⟩ : ∃ x, w.alloc (.cells #[.int .i64 why, .int .i64 at_] 50) = x := ⟨_, rfl⟩
  rw [hwa]
  have kt : wa.heap[tb]? = some (kidO k9 n9 m9 a9 sl) := by rw [← hwa]; exact alloc_blk HW.out.1
  have ke : wa.heap[eb]? = some (oneO x 30) := by rw [← hwa]; exact alloc_blk HW.out.2.1
  have ka : wa.heap[ab]? = some (oneO y 3) := by rw [← hwa]; exact alloc_blk HW.out.2.2
  have HK : Hid (wa.heap[tb]? = some (kidO k9 n9 m9 a9 sl) ∧ wa.heap[eb]? = some (oneO x 30) ∧ wa.heap[ab]? = some (oneO y 3)) := ⟨kt, ke, ka⟩
  have HA : Hid (Below w.heap.size w wa) := by show Below w.heap.size w wa; rw [← hwa]; exact below_alloc _ _
  have f0 : wa.cell? ⟨w.heap.size, 0, none⟩ = some (.int .i64 why) := by rw [← hwa]; simp
  have f1 : wa.cell? ⟨w.heap.size, 1, none⟩ = some (.int .i64 at_) := by rw [← hwa]; simp
  obtain ⟨⟨z0, z1, z2, z3, z4⟩, ⟨y0, y1, y2, y3, y4⟩⟩ := kid_cells kt
  obtain ⟨e0, g0⟩ := one_cells ke
  obtain ⟨a0, b0⟩ := one_cells ka
  have n1 : ¬ w.heap.size = tb := by have := blk_lt HW.out.1; omega
  have n2 : ¬ w.heap.size = eb := by have := blk_lt HW.out.2.1; omega
  have n3 : ¬ w.heap.size = ab := by have := blk_lt HW.out.2.2; omega
  have m1 : ¬ tb = eb := h1
  have m2 : ¬ tb = ab := h2
  have m3 : ¬ eb = ab := h3
  have m4 : ¬ eb = tb := fun e => h1 e.symm
  have m5 : ¬ ab = tb := fun e => h2 e.symm
  have m6 : ¬ ab = eb := fun e => h3 e.symm
  have qb := bldz
  clear kt ke ka h1 h2 h3 hwa qa
  refine wpS_of_wp ?_
  go_wp2
  go_region
  all_goals (
    go_wp2
    obtain ⟨u, hu5⟩ : ∃ u, ((((wa.setCell ⟨tb, 0, none⟩ (.int .i64 0)).setCell ⟨tb, 1, none⟩ (.string ⟨#[]⟩)).setCell ⟨tb, 2, none⟩ (.int .i64 0)).setCell ⟨tb, 3, none⟩ (.int .i64 0)).setCell ⟨tb, 4, none⟩ (.slice none 0 0) = u := ⟨_, rfl⟩
    have hut : u.heap[tb]? = some (kidO 0 [] 0 0 (.slice none 0 0)) := by rw [← hu5]; exact set5_blk (n := []) (a := 0) HK.out.1
    have hub : ∀ b, b ≠ tb → u.heap[b]? = wa.heap[b]? := by rw [← hu5]; exact but_set5 wa tb _ _ _ _ _
    have hus : u.heap.size = wa.heap.size ∧ u.os = wa.os ∧ u.tape = wa.tape ∧ u.output = wa.output := by rw [← hu5]; exact ⟨by simp, rfl, rfl, rfl⟩
    have hz : (((u.setCell ⟨eb, 0, none⟩ (.int .i64 why)).setCell ⟨ab, 0, none⟩ (.int .i64 at_)).drew.heap[tb]? = some (kidO 0 [] 0 0 (.slice none 0 0)) ∧ ((u.setCell ⟨eb, 0, none⟩ (.int .i64 why)).setCell ⟨ab, 0, none⟩ (.int .i64 at_)).drew.heap[eb]? = some (oneO why 30) ∧ ((u.setCell ⟨eb, 0, none⟩ (.int .i64 why)).setCell ⟨ab, 0, none⟩ (.int .i64 at_)).drew.heap[ab]? = some (oneO at_ 3)) ∧ (∀ b, b < w.heap.size → b ≠ tb → b ≠ eb → b ≠ ab → ((u.setCell ⟨eb, 0, none⟩ (.int .i64 why)).setCell ⟨ab, 0, none⟩ (.int .i64 at_)).drew.heap[b]? = w.heap[b]?) ∧ ((u.setCell ⟨eb, 0, none⟩ (.int .i64 why)).setCell ⟨ab, 0, none⟩ (.int .i64 at_)).drew.os = w.os ∧ ((u.setCell ⟨eb, 0, none⟩ (.int .i64 why)).setCell ⟨ab, 0, none⟩ (.int .i64 at_)).drew.tape = w.tape ∧ ((u.setCell ⟨eb, 0, none⟩ (.int .i64 why)).setCell ⟨ab, 0, none⟩ (.int .i64 at_)).drew.output = w.output ∧ w.heap.size ≤ ((u.setCell ⟨eb, 0, none⟩ (.int .i64 why)).setCell ⟨ab, 0, none⟩ (.int .i64 at_)).drew.heap.size := by
      have hA := HA.out
      refine ⟨⟨?_, ?_, ?_⟩, ?_, hus.2.1.trans hA.os, hus.2.2.1.trans hA.tape, hus.2.2.2.trans hA.output, ?_⟩
      · exact (Below.heap_setCell _ _ _ _ m2).trans ((Below.heap_setCell _ _ _ _ m1).trans hut)
      · exact (Below.heap_setCell _ _ _ _ m3).trans (setCell_blk ((hub eb m4).trans HK.out.2.1))
      · exact setCell_blk ((Below.heap_setCell _ _ _ _ m6).trans ((hub ab m5).trans HK.out.2.2))
      · intro b hb q1 q2 q3
        exact (Below.heap_setCell _ _ _ _ q3).trans ((Below.heap_setCell _ _ _ _ q2).trans ((hub b q1).trans (hA.block b hb)))
      · show w.heap.size ≤ ((u.setCell ⟨eb, 0, none⟩ (.int .i64 why)).setCell ⟨ab, 0, none⟩ (.int .i64 at_)).heap.size
        have := hA.size
        simp
        omega
    rw [hu5]
    generalize ((u.setCell ⟨eb, 0, none⟩ (.int .i64 why)).setCell ⟨ab, 0, none⟩ (.int .i64 at_)).drew = wz at hz ⊢
    clear z0 z1 z2 z3 z4 y0 y1 y2 y3 y4 e0 g0 a0 b0 f0 f1 hut hub hus hu5 qb HW HK HA
    cases c₀
    simp_all [bodyPostS, results, Tryz.results25])
set_option maxHeartbeats 2000000 in
set_option maxRecDepth 4000 in
theorem catch_idle (tb eb ab : Nat) (w : World) :
    CallsD Tryz.prog 25 #[.pointer (some ⟨tb, 0, none⟩), .pointer (some ⟨eb, 0, none⟩), .pointer (some ⟨ab, 0, none⟩)] .returning w fun e u' w' => e = .returned (.tuple #[]) ∧ u' = .returning ∧ Below w.heap.size w w' := by
  have qa := assert_none
  refine callsD_of_wpS Tryz.func25 rfl fun c₀ cs hu => ?_
  apply wpS_seq
  apply wpS_region
  simp [wpOpsS, go_sem, recoverD, hu, Tryz.ntmps25, Exit.thenS, Array.replicate, qa]
  refine wpS_of_wp ?_
  go_wp2
  have hb : Below w.heap.size w (w.alloc (.cells #[.int .i64 0, .int .i64 0] 50)) := below_alloc _ _
  generalize w.alloc (.cells #[.int .i64 0, .int .i64 0] 50) = wz at hb ⊢
  cases c₀
  simp_all [bodyPostS, results, Tryz.results25]
end Go.Proofs.YteokdknaadckbaaGreatDoor
namespace Go.Proofs.YteokdknaadckbaaGreatDoor
open Go.RowKit

/-- the program's variables, as they lie in memory -/
def GlobAt (w : World) : Prop := ∃ t fr, w.heap[0]? = some (.cells baresA t fr)
theorem GlobAt.below {w w' : World} (h : GlobAt w) (hB : Below w.heap.size w w') : GlobAt w' := by
  obtain ⟨t, fr, h⟩ := h
  exact ⟨t, fr, (hB.block 0 (blk_lt h)).trans h⟩
def ParsePost (R : PRes) (w : World) (e : Ending) (w' : World) : Prop :=
  match R with
  | .ok t => ∃ v, e = .returned (.tuple #[v, .int .i64 0, .int .i64 0]) ∧ treeIs w.heap.size t w' v ∧ Below w.heap.size w w'
  | .err r i => e = .returned (.tuple #[kidV 0 [] 0 0 (.slice none 0 0), .int .i64 r, .int .i64 i]) ∧ Below w.heap.size w w'
theorem Sole.to_below {p : Nat} {w wp w' : World} (hB : Below w.heap.size w wp) (hp : w.heap.size ≤ p) (hS : Sole p wp w') : Below w.heap.size w w' :=
  ⟨hS.os.trans hB.os, hS.tape.trans hB.tape, hS.output.trans hB.output, Nat.le_trans hB.size hS.size, fun b hb => (hS.block b (Nat.lt_of_lt_of_le hb hB.size) (by omega)).trans (hB.block b hb)⟩
theorem bld53 (o : Option Addr) (n c : Nat) (w : World) : (Instr.build 53 #[(0, .slice o n c)]).run Tryz.prog w = .ok (.agg #[.slice o n c, .int .i64 0, .int .i64 0, .bool false]) w := by kernel_rfl
theorem ext0 (a b c : Value) (w : World) : (Instr.extract (.tuple #[a, b, c]) 0).run Tryz.prog w = .ok a w := rfl
theorem ext1 (a b c : Value) (w : World) : (Instr.extract (.tuple #[a, b, c]) 1).run Tryz.prog w = .ok b w := rfl
theorem ext2 (a b c : Value) (w : World) : (Instr.extract (.tuple #[a, b, c]) 2).run Tryz.prog w = .ok c w := rfl

set_option maxHeartbeats 2000000 in
set_option maxRecDepth 4000 in
theorem parse_lex (l : List UInt8) (r : Int) (i : Nat) (hr : r ≠ 0) (w : World) (HS : Hid (∀ w1, Calls Tryz.prog 16 #[.string ⟨l.toArray⟩] w1 fun e w' => e = .returned (.tuple #[.slice none 0 0, .int .i64 r, .int .i64 i]) ∧ Below w1.heap.size w1 w')) :
    Calls Tryz.prog 11 #[.string ⟨l.toArray⟩] w (ParsePost (.err r i) w) := by
  have hmf : ∀ (fn : Fn) (first cap : Array Value) (w : World), (Instr.makeFunc fn first cap).run Tryz.prog w = .ok (.func fn first cap) w := fun _ _ _ _ => rfl
  obtain ⟨wa1, hwa1⟩ : ∃ x, w.alloc (.cells #[.int .i64 0, .string ⟨#[]⟩, .int .i64 0, .int .i64 0, .slice none 0 0] 29) = x := ⟨_, rfl⟩
  obtain ⟨wa2, hwa2⟩ : ∃ x, wa1.alloc (.cells #[.int .i64 0] 30) = x := ⟨_, rfl⟩
  obtain ⟨wa3, hwa3⟩ : ∃ x, wa2.alloc (.cells #[.int .i64 0] 3) = x := ⟨_, rfl⟩
  have b1 : Below w.heap.size w wa1 := by rw [← hwa1]; exact below_alloc _ _
  have b2 : Below w.heap.size w wa2 := by rw [← hwa2]; exact b1.alloc b1.size _
  have b3 : Below w.heap.size w wa3 := by rw [← hwa3]; exact b2.alloc b2.size _
  have kt : Kep w wa3 w.heap.size (kidO 0 [] 0 0 (.slice none 0 0)) := by rw [← hwa3, ← hwa2, ← hwa1]; exact ((Kep.new (Nat.le_refl _) _).alloc _).alloc _
  have ke : Kep w wa3 wa1.heap.size (oneO 0 30) := by rw [← hwa3, ← hwa2]; exact (Kep.new b1.size _).alloc _
  have ka : Kep w wa3 wa2.heap.size (oneO 0 3) := by rw [← hwa3]; exact Kep.new b2.size _
  have HLT : Hid (w.heap.size < wa1.heap.size ∧ wa1.heap.size < wa2.heap.size) := ⟨by rw [← hwa1]; simp, by rw [← hwa2]; simp⟩
  have HB3 : Hid (Below w.heap.size w wa3) := b3
  have HK3 : Hid (Kep w wa3 w.heap.size (kidO 0 [] 0 0 (.slice none 0 0)) ∧ Kep w wa3 wa1.heap.size (oneO 0 30) ∧ Kep w wa3 wa2.heap.size (oneO 0 3)) := ⟨kt, ke, ka⟩
  clear b1 b2 b3 kt ke ka
  have hrn : (r != 0) = true := by simp [hr]
  clear hr
  go_enter_defers Tryz.func11, Tryz.ntmps11
  go_wp2_with fail
  clear hwa1 hwa2 hwa3
  refine (HS.out wa3).mono ?_
  rintro e ws ⟨rfl, hB⟩
  have hlt := HLT.out
  have k0 : Kep w ws w.heap.size (kidO 0 [] 0 0 (.slice none 0 0)) := HK3.out.1.below hB
  have k1 : Kep w ws wa1.heap.size (oneO 0 30) := HK3.out.2.1.below hB
  have k2 : Kep w ws wa2.heap.size (oneO 0 3) := HK3.out.2.2.below hB
  have HKS : Hid (Kep w ws w.heap.size (kidO 0 [] 0 0 (.slice none 0 0)) ∧ Kep w ws wa1.heap.size (oneO 0 30) ∧ Kep w ws wa2.heap.size (oneO 0 3) ∧ Below w.heap.size w ws) := ⟨k0, k1, k2, HB3.out.trans (hB.mono HB3.out.size)⟩
  obtain ⟨⟨z0, z1, z2, z3, z4⟩, ⟨y0, y1, y2, y3, y4⟩⟩ := kid_cells k0.1
  obtain ⟨e0, g0⟩ := one_cells k1.1
  obtain ⟨a0, b0⟩ := one_cells k2.1
  have m1 : ¬ w.heap.size = wa1.heap.size := by omega
  have m2 : ¬ w.heap.size = wa2.heap.size := by omega
  have m3 : ¬ wa1.heap.size = wa2.heap.size := by omega
  have m4 : ¬ wa1.heap.size = w.heap.size := by omega
  have m5 : ¬ wa2.heap.size = w.heap.size := by omega
  have m6 : ¬ wa2.heap.size = wa1.heap.size := by omega
  have qb := bldz
  have x0 := ext0
  have x1 := ext1
  have x2 := ext2
  clear k0 k1 k2 hB hlt
  go_wp2
  have hz1 : ∀ b, b ≠ wa1.heap.size → b ≠ wa2.heap.size → ((ws.setCell ⟨wa1.heap.size, 0, none⟩ (.int .i64 r)).setCell ⟨wa2.heap.size, 0, none⟩ (.int .i64 i)).heap[b]? = ws.heap[b]? := fun b h1 h2 => (Below.heap_setCell _ _ _ _ h2).trans (Below.heap_setCell _ _ _ _ h1)
  have k0 : ((ws.setCell ⟨wa1.heap.size, 0, none⟩ (.int .i64 r)).setCell ⟨wa2.heap.size, 0, none⟩ (.int .i64 i)).heap[w.heap.size]? = some (kidO 0 [] 0 0 (.slice none 0 0)) := (hz1 _ m1 m2).trans HKS.out.1.1
  have k1 : ((ws.setCell ⟨wa1.heap.size, 0, none⟩ (.int .i64 r)).setCell ⟨wa2.heap.size, 0, none⟩ (.int .i64 i)).heap[wa1.heap.size]? = some (oneO r 30) := (Below.heap_setCell _ _ _ _ m3).trans (setCell_blk HKS.out.2.1.1)
  have k2 : ((ws.setCell ⟨wa1.heap.size, 0, none⟩ (.int .i64 r)).setCell ⟨wa2.heap.size, 0, none⟩ (.int .i64 i)).heap[wa2.heap.size]? = some (oneO i 3) := setCell_blk ((Below.heap_setCell _ _ _ _ m6).trans HKS.out.2.2.1.1)
  have hlt := HLT.out
  have HBX : Hid (Below w.heap.size w ((ws.setCell ⟨wa1.heap.size, 0, none⟩ (.int .i64 r)).setCell ⟨wa2.heap.size, 0, none⟩ (.int .i64 i))) := (HKS.out.2.2.2.setCell (p := ⟨wa1.heap.size, 0, none⟩) (Nat.le_of_lt hlt.1) _).setCell (p := ⟨wa2.heap.size, 0, none⟩) (by show w.heap.size ≤ wa2.heap.size; omega) _
  clear z0 z1 z2 z3 z4 y0 y1 y2 y3 y4 e0 g0 a0 b0 hz1
  generalize ((ws.setCell ⟨wa1.heap.size, 0, none⟩ (.int .i64 r)).setCell ⟨wa2.heap.size, 0, none⟩ (.int .i64 i)) = wx at k0 k1 k2 HBX ⊢
  have HKX : Hid (wx.heap[w.heap.size]? = some (kidO 0 [] 0 0 (.slice none 0 0)) ∧ wx.heap[wa1.heap.size]? = some (oneO r 30) ∧ wx.heap[wa2.heap.size]? = some (oneO i 3)) := ⟨k0, k1, k2⟩
  obtain ⟨⟨z0, z1, z2, z3, z4⟩, ⟨y0, y1, y2, y3, y4⟩⟩ := kid_cells k0
  obtain ⟨e0, g0⟩ := one_cells k1
  obtain ⟨a0, b0⟩ := one_cells k2
  clear k0 k1 k2 hlt
  go_region
  all_goals (
    go_wp2
    obtain ⟨u, hu5⟩ : ∃ u, ((((wx.setCell ⟨w.heap.size, 0, none⟩ (.int .i64 0)).setCell ⟨w.heap.size, 1, none⟩ (.string ⟨#[]⟩)).setCell ⟨w.heap.size, 2, none⟩ (.int .i64 0)).setCell ⟨w.heap.size, 3, none⟩ (.int .i64 0)).setCell ⟨w.heap.size, 4, none⟩ (.slice none 0 0) = u := ⟨_, rfl⟩
    have hut : u.heap[w.heap.size]? = some (kidO 0 [] 0 0 (.slice none 0 0)) := by rw [← hu5]; exact set5_blk (n := []) (a := 0) HKX.out.1
    have hub : ∀ b, b ≠ w.heap.size → u.heap[b]? = wx.heap[b]? := by rw [← hu5]; exact but_set5 wx w.heap.size _ _ _ _ _
    have hbu : Below w.heap.size w u := by rw [← hu5]; exact HBX.out.trans (below_set5 wx w.heap.size w.heap.size _ _ _ _ _ (Nat.le_refl _))
    rw [hu5]
    have hlt := HLT.out
    have hz0 : ((u.setCell ⟨wa1.heap.size, 0, none⟩ (.int .i64 r)).setCell ⟨wa2.heap.size, 0, none⟩ (.int .i64 i)).drew.heap[w.heap.size]? = some (kidO 0 [] 0 0 (.slice none 0 0)) := (Below.heap_setCell _ _ _ _ m2).trans ((Below.heap_setCell _ _ _ _ m1).trans hut)
    have hz1 : ((u.setCell ⟨wa1.heap.size, 0, none⟩ (.int .i64 r)).setCell ⟨wa2.heap.size, 0, none⟩ (.int .i64 i)).drew.heap[wa1.heap.size]? = some (oneO r 30) := (Below.heap_setCell _ _ _ _ m3).trans (setCell_blk ((hub _ m4).trans HKX.out.2.1))
    have hz2 : ((u.setCell ⟨wa1.heap.size, 0, none⟩ (.int .i64 r)).setCell ⟨wa2.heap.size, 0, none⟩ (.int .i64 i)).drew.heap[wa2.heap.size]? = some (oneO i 3) := setCell_blk ((Below.heap_setCell _ _ _ _ m6).trans ((hub _ m5).trans HKX.out.2.2))
    have hbz : Below w.heap.size w ((u.setCell ⟨wa1.heap.size, 0, none⟩ (.int .i64 r)).setCell ⟨wa2.heap.size, 0, none⟩ (.int .i64 i)).drew := ((hbu.setCell (p := ⟨wa1.heap.size, 0, none⟩) (Nat.le_of_lt hlt.1) _).setCell (p := ⟨wa2.heap.size, 0, none⟩) (by show w.heap.size ≤ wa2.heap.size; omega) _).drew
    generalize ((u.setCell ⟨wa1.heap.size, 0, none⟩ (.int .i64 r)).setCell ⟨wa2.heap.size, 0, none⟩ (.int .i64 i)).drew = wz at hz0 hz1 hz2 hbz ⊢
    have q := (kid_cells hz0).1
    have q5 := (one_cells hz1).1
    have q6 := (one_cells hz2).1
    obtain ⟨q0, q1, q2, q3, q4⟩ := q
    clear hut hub hbu hz0 hz1 hz2 hu5 z0 z1 z2 z3 z4 y0 y1 y2 y3 y4 e0 g0 a0 b0 qb x0 x1 x2 hmf
    simp [bodyPostD, Leaves, results, Tryz.results11, go_sem, q0, q1, q2, q3, q4, q5, q6]
    exact ⟨rfl, hbz⟩)
/-- what Parse answers of its tokens -/
def treeR (r : Ans Tree) : PRes :=
  match r with
  | .ok t _ => .ok t
  | .no e i => .err e i
set_option maxHeartbeats 2000000 in
set_option maxRecDepth 4000 in
theorem parse_toks (l : List UInt8) (ts : List Tok) (h1 : ts.length ≤ 16001) (hE : Ends ts) (h0 : 0 < ts.length) (w : World) (hG : GlobAt w) (HS : Hid (∀ w1, Calls Tryz.prog 16 #[.string ⟨l.toArray⟩] w1 fun e w' => ∃ g cap, e = .returned (.tuple #[.slice (some ⟨g, 0, none⟩) ts.length cap, .int .i64 0, .int .i64 0]) ∧ w'.ownsRow w1.heap.size 41 4 (.slice (some ⟨g, 0, none⟩) ts.length cap) ts.length (Lx.tokCells ts) ∧ Below w1.heap.size w1 w')) :
    Calls Tryz.prog 11 #[.string ⟨l.toArray⟩] w (ParsePost (treeR ((sourceP 102 [] ⟨ts, false⟩).bind fun ks s => Ans.ok (Tree.node 1 [] 0 0 ks) s)) w) := by
  have hmf : ∀ (fn : Fn) (first cap : Array Value) (w : World), (Instr.makeFunc fn first cap).run Tryz.prog w = .ok (.func fn first cap) w := fun _ _ _ _ => rfl
  obtain ⟨wa1, hwa1⟩ : ∃ x, w.alloc (.cells #[.int .i64 0, .string ⟨#[]⟩, .int .i64 0, .int .i64 0, .slice none 0 0] 29) = x := ⟨_, rfl⟩
  obtain ⟨wa2, hwa2⟩ : ∃ x, wa1.alloc (.cells #[.int .i64 0] 30) = x := ⟨_, rfl⟩
  obtain ⟨wa3, hwa3⟩ : ∃ x, wa2.alloc (.cells #[.int .i64 0] 3) = x := ⟨_, rfl⟩
  have b1 : Below w.heap.size w wa1 := by rw [← hwa1]; exact below_alloc _ _
  have b2 : Below w.heap.size w wa2 := by rw [← hwa2]; exact b1.alloc b1.size _
  have b3 : Below w.heap.size w wa3 := by rw [← hwa3]; exact b2.alloc b2.size _
  have kt : Kep w wa3 w.heap.size (kidO 0 [] 0 0 (.slice none 0 0)) := by rw [← hwa3, ← hwa2, ← hwa1]; exact ((Kep.new (Nat.le_refl _) _).alloc _).alloc _
  have ke : Kep w wa3 wa1.heap.size (oneO 0 30) := by rw [← hwa3, ← hwa2]; exact (Kep.new b1.size _).alloc _
  have ka : Kep w wa3 wa2.heap.size (oneO 0 3) := by rw [← hwa3]; exact Kep.new b2.size _
  have HLT : Hid (w.heap.size < wa1.heap.size ∧ wa1.heap.size < wa2.heap.size) := ⟨by rw [← hwa1]; simp, by rw [← hwa2]; simp⟩
  have HB3 : Hid (Below w.heap.size w wa3) := b3
  have HK3 : Hid (Kep w wa3 w.heap.size (kidO 0 [] 0 0 (.slice none 0 0)) ∧ Kep w wa3 wa1.heap.size (oneO 0 30) ∧ Kep w wa3 wa2.heap.size (oneO 0 3)) := ⟨kt, ke, ka⟩
  clear b1 b2 b3 kt ke ka
  have HTS : Hid (ts.length ≤ 16001 ∧ Ends ts ∧ 0 < ts.length) := ⟨h1, hE, h0⟩
  have HG : Hid (GlobAt w) := hG
  obtain ⟨R, hR⟩ : ∃ R, ((sourceP 102 [] ⟨ts, false⟩).bind fun ks s => Ans.ok (Tree.node 1 [] 0 0 ks) s) = R := ⟨_, rfl⟩
  rw [hR]
  have HR : Hid (((sourceP 102 [] ⟨ts, false⟩).bind fun ks s => Ans.ok (Tree.node 1 [] 0 0 ks) s) = R) := hR
  clear h1 hE h0 hR hG
  go_enter_defers Tryz.func11, Tryz.ntmps11
  go_wp2_with fail
  clear hwa1 hwa2 hwa3
  refine (HS.out wa3).mono ?_
  rintro e ws ⟨g, cap, rfl, ho, hB⟩
  have hlt := HLT.out
  have k0 : Kep w ws w.heap.size (kidO 0 [] 0 0 (.slice none 0 0)) := HK3.out.1.below hB
  have k1 : Kep w ws wa1.heap.size (oneO 0 30) := HK3.out.2.1.below hB
  have k2 : Kep w ws wa2.heap.size (oneO 0 3) := HK3.out.2.2.below hB
  have HKS : Hid (Kep w ws w.heap.size (kidO 0 [] 0 0 (.slice none 0 0)) ∧ Kep w ws wa1.heap.size (oneO 0 30) ∧ Kep w ws wa2.heap.size (oneO 0 3) ∧ Below w.heap.size w ws) := ⟨k0, k1, k2, HB3.out.trans (hB.mono HB3.out.size)⟩
  have HOW : Hid (ws.ownsRow wa3.heap.size 41 4 (.slice (some ⟨g, 0, none⟩) ts.length cap) ts.length (Lx.tokCells ts) ∧ wa2.heap.size < wa3.heap.size) := ⟨ho, HK3.out.2.2.lt⟩
  obtain ⟨e0, g0⟩ := one_cells k1.1
  obtain ⟨a0, b0⟩ := one_cells k2.1
  have m1 : ¬ w.heap.size = wa1.heap.size := by omega
  have m2 : ¬ w.heap.size = wa2.heap.size := by omega
  have m3 : ¬ wa1.heap.size = wa2.heap.size := by omega
  have m4 : ¬ wa1.heap.size = w.heap.size := by omega
  have m5 : ¬ wa2.heap.size = w.heap.size := by omega
  have m6 : ¬ wa2.heap.size = wa1.heap.size := by omega
  have qb := bld53 (some ⟨g, 0, none⟩) ts.length cap
  have x0 := ext0
  have x1 := ext1
  have x2 := ext2
  clear k0 k1 k2 hB hlt ho
  go_wp2_with fail
  have hlt := HLT.out
  have hz1 : ∀ b, b ≠ wa1.heap.size → b ≠ wa2.heap.size → ((ws.setCell ⟨wa1.heap.size, 0, none⟩ (.int .i64 0)).setCell ⟨wa2.heap.size, 0, none⟩ (.int .i64 0)).heap[b]? = ws.heap[b]? := fun b h1 h2 => (Below.heap_setCell _ _ _ _ h2).trans (Below.heap_setCell _ _ _ _ h1)
  have k0 : Kep w ((ws.setCell ⟨wa1.heap.size, 0, none⟩ (.int .i64 0)).setCell ⟨wa2.heap.size, 0, none⟩ (.int .i64 0)) w.heap.size (kidO 0 [] 0 0 (.slice none 0 0)) := ⟨(hz1 _ m1 m2).trans HKS.out.1.1, Nat.le_refl _⟩
  have k1 : Kep w ((ws.setCell ⟨wa1.heap.size, 0, none⟩ (.int .i64 0)).setCell ⟨wa2.heap.size, 0, none⟩ (.int .i64 0)) wa1.heap.size (oneO 0 30) := ⟨(Below.heap_setCell _ _ _ _ m3).trans (setCell_blk HKS.out.2.1.1), HKS.out.2.1.2⟩
  have k2 : Kep w ((ws.setCell ⟨wa1.heap.size, 0, none⟩ (.int .i64 0)).setCell ⟨wa2.heap.size, 0, none⟩ (.int .i64 0)) wa2.heap.size (oneO 0 3) := ⟨setCell_blk ((Below.heap_setCell _ _ _ _ m6).trans HKS.out.2.2.1.1), HKS.out.2.2.1.2⟩
  have hbx : Below w.heap.size w ((ws.setCell ⟨wa1.heap.size, 0, none⟩ (.int .i64 0)).setCell ⟨wa2.heap.size, 0, none⟩ (.int .i64 0)) := (HKS.out.2.2.2.setCell (p := ⟨wa1.heap.size, 0, none⟩) (Nat.le_of_lt hlt.1) _).setCell (p := ⟨wa2.heap.size, 0, none⟩) (by show w.heap.size ≤ wa2.heap.size; omega) _
  have hox : (((ws.setCell ⟨wa1.heap.size, 0, none⟩ (.int .i64 0)).setCell ⟨wa2.heap.size, 0, none⟩ (.int .i64 0))).ownsRow wa3.heap.size 41 4 (.slice (some ⟨g, 0, none⟩) ts.length cap) ts.length (Lx.tokCells ts) := owns_block HOW.out.1 (fun q e hl => hz1 q (by have h1 := (HOW.out.1.lt q e).1; have h2 := HOW.out.2; omega) (by have h1 := (HOW.out.1.lt q e).1; have h2 := HOW.out.2; omega))
  have hsz : (((ws.setCell ⟨wa1.heap.size, 0, none⟩ (.int .i64 0)).setCell ⟨wa2.heap.size, 0, none⟩ (.int .i64 0))).heap.size = ws.heap.size := by simp
  clear hz1 e0 g0 a0 b0
  generalize ((ws.setCell ⟨wa1.heap.size, 0, none⟩ (.int .i64 0)).setCell ⟨wa2.heap.size, 0, none⟩ (.int .i64 0)) = wx at k0 k1 k2 hbx hox hsz ⊢
  have hp : w.heap.size ≤ wx.heap.size := hbx.size
  have hpp := PP.made hox HTS.out.1 HTS.out.2.2
  have hbp : Below w.heap.size w (wx.alloc (.cells #[.slice (some ⟨g, 0, none⟩) ts.length cap, .int .i64 0, .int .i64 0, .bool false] 53)) := hbx.alloc hbx.size _
  have hba : BareAt wx.heap.size (wx.alloc (.cells #[.slice (some ⟨g, 0, none⟩) ts.length cap, .int .i64 0, .int .i64 0, .bool false] 53)) := by
    obtain ⟨t, fr, hg⟩ := HG.out.below hbp
    have h0 : 0 < w.heap.size := by obtain ⟨t, fr, hg⟩ := HG.out; exact blk_lt hg
    exact ⟨by omega, t, fr, hg⟩
  have HSO : Hid (Calls Tryz.prog 26 #[.pointer (some ⟨wx.heap.size, 0, none⟩)] (wx.alloc (.cells #[.slice (some ⟨g, 0, none⟩) ts.length cap, .int .i64 0, .int .i64 0, .bool false] 53)) (PPost wx.heap.size g cap ts 0 (treeIs (wx.alloc (.cells #[.slice (some ⟨g, 0, none⟩) ts.length cap, .int .i64 0, .int .i64 0, .bool false] 53)).heap.size) R (wx.alloc (.cells #[.slice (some ⟨g, 0, none⟩) ts.length cap, .int .i64 0, .int .i64 0, .bool false] 53)))) := by
    have hx := source_any wx.heap.size g cap ts HTS.out.2.1 0 rfl 0 false (wx.alloc (.cells #[.slice (some ⟨g, 0, none⟩) ts.length cap, .int .i64 0, .int .i64 0, .bool false] 53)) hpp hba
    rw [← HR.out]
    exact hx
  rw [hsz] at HSO
  obtain ⟨wp, hwp⟩ : ∃ x, wx.alloc (.cells #[.slice (some ⟨g, 0, none⟩) ts.length cap, .int .i64 0, .int .i64 0, .bool false] 53) = x := ⟨_, rfl⟩
  rw [hwp] at HSO ⊢
  have HKP : Hid (Kep w wp w.heap.size (kidO 0 [] 0 0 (.slice none 0 0)) ∧ Kep w wp wa1.heap.size (oneO 0 30) ∧ Kep w wp wa2.heap.size (oneO 0 3) ∧ Below w.heap.size w wp ∧ wa2.heap.size < ws.heap.size ∧ w.heap.size < wp.heap.size) := by
    rw [← hwp]
    exact ⟨k0.alloc _, k1.alloc _, k2.alloc _, hbp, hsz ▸ k2.lt, by have := k0.lt; simp; omega⟩
  clear k0 k1 k2 hbx hox hsz hp hpp hbp hba hwp hlt qb
  refine HSO.out.mono ?_
  cases R with
  | no why at_ =>
    rintro e w9 ⟨rfl, hS⟩
    have hkp := HKP.out
    have hlt := HLT.out
    have k0 : w9.heap[w.heap.size]? = some (kidO 0 [] 0 0 (.slice none 0 0)) := hS.blk hkp.1.1 (by omega)
    have k1 : w9.heap[wa1.heap.size]? = some (oneO 0 30) := hS.blk hkp.2.1.1 (by omega)
    have k2 : w9.heap[wa2.heap.size]? = some (oneO 0 3) := hS.blk hkp.2.2.1.1 (by omega)
    have HB9 : Hid (Below w.heap.size w w9) := Sole.to_below hkp.2.2.2.1 (by omega) hS
    have HK9 : Hid (w9.heap[w.heap.size]? = some (kidO 0 [] 0 0 (.slice none 0 0)) ∧ w9.heap[wa1.heap.size]? = some (oneO 0 30) ∧ w9.heap[wa2.heap.size]? = some (oneO 0 3)) := ⟨k0, k1, k2⟩
    clear hS k0 k1 k2 hkp hlt
    go_wp2
    refine leaves_cons (f := 25) (args := #[.pointer (some ⟨w.heap.size, 0, none⟩), .pointer (some ⟨wa1.heap.size, 0, none⟩), .pointer (some ⟨wa2.heap.size, 0, none⟩)]) (by simp) (by simp [go_sem]) ?_
    refine (catch_fault w.heap.size wa1.heap.size wa2.heap.size why at_ [] w9 0 [] 0 0 (.slice none 0 0) 0 0 HK9.out.1 HK9.out.2.1 HK9.out.2.2 m1 m2 m3).mono ?_
    rintro e u' wz ⟨rfl, rfl, ⟨hz0, hz1, hz2⟩, hf, h1, h2, h3, h4⟩
    have hlt := HLT.out
    have hbz : Below w.heap.size w wz := ⟨h1.trans HB9.out.os, h2.trans HB9.out.tape, h3.trans HB9.out.output, Nat.le_trans HB9.out.size h4, fun b hb => (hf b (Nat.lt_of_lt_of_le hb HB9.out.size) (by omega) (by omega) (by omega)).trans (HB9.out.block b hb)⟩
    obtain ⟨q0, q1, q2, q3, q4⟩ := (kid_cells hz0).1
    have q5 := (one_cells hz1).1
    have q6 := (one_cells hz2).1
    clear hf h1 h2 h3 h4 hz0 hz1 hz2 x0 x1 x2 hmf
    simp [Leaves, settle, results, Tryz.results11, go_sem, q0, q1, q2, q3, q4, q5, q6]
    exact ⟨rfl, hbz⟩
  | ok t st =>
    rintro e w9 ⟨v, i, full, rfl, hT, rfl, hP, hS⟩
    obtain ⟨k8, n8, m8, a8, ks8⟩ := t
    obtain ⟨sl, rfl, hL⟩ := treeAt_node.1 hT
    obtain ⟨o8, l8, c8, rfl⟩ := hL.shape
    have hkp := HKP.out
    have hlt := HLT.out
    have k0 : Kep w w9 w.heap.size (kidO 0 [] 0 0 (.slice none 0 0)) := ⟨hS.blk hkp.1.1 (by omega), Nat.le_refl _⟩
    have k1 : w9.heap[wa1.heap.size]? = some (oneO 0 30) := hS.blk hkp.2.1.1 (by omega)
    have k2 : w9.heap[wa2.heap.size]? = some (oneO 0 3) := hS.blk hkp.2.2.1.1 (by omega)
    have HB9 : Hid (Below w.heap.size w w9) := Sole.to_below hkp.2.2.2.1 (by omega) hS
    have HK9 : Hid (w9.heap[w.heap.size]? = some (kidO 0 [] 0 0 (.slice none 0 0)) ∧ w9.heap[wa1.heap.size]? = some (oneO 0 30) ∧ w9.heap[wa2.heap.size]? = some (oneO 0 3)) := ⟨k0.1, k1, k2⟩
    have HL9 : Hid (ListAt (fun b => wa2.heap.size < b) w9 ks8 (.slice o8 l8 c8)) := hL.weaken (fun b h => by have h1 : wp.heap.size ≤ b := h; have h2 := hkp.2.2.1.lt; omega)
    obtain ⟨⟨z0, z1, z2, z3, z4⟩, ⟨y0, y1, y2, y3, y4⟩⟩ := kid_cells k0.1
    obtain ⟨e0, g0⟩ := one_cells k1
    obtain ⟨a0, b0⟩ := one_cells k2
    clear hS hP hT hL k0 k1 k2 hkp hlt
    unfold kidV
    go_wp2
    obtain ⟨u, hu5⟩ : ∃ u, ((((w9.setCell ⟨w.heap.size, 0, none⟩ (.int .i64 k8)).setCell ⟨w.heap.size, 1, none⟩ (.string ⟨n8.toArray⟩)).setCell ⟨w.heap.size, 2, none⟩ (.int .i64 m8)).setCell ⟨w.heap.size, 3, none⟩ (.int .i64 a8)).setCell ⟨w.heap.size, 4, none⟩ (.slice o8 l8 c8) = u := ⟨_, rfl⟩
    have hut : u.heap[w.heap.size]? = some (kidO k8 n8 m8 a8 (.slice o8 l8 c8)) := by rw [← hu5]; exact set5_blk HK9.out.1
    have hub : ∀ b, b ≠ w.heap.size → u.heap[b]? = w9.heap[b]? := by rw [← hu5]; exact but_set5 w9 w.heap.size _ _ _ _ _
    have hbu : Below w.heap.size w u := by rw [← hu5]; exact HB9.out.trans (below_set5 w9 w.heap.size w.heap.size _ _ _ _ _ (Nat.le_refl _))
    rw [hu5]
    have hlt := HLT.out
    have hz0 : ((u.setCell ⟨wa1.heap.size, 0, none⟩ (.int .i64 0)).setCell ⟨wa2.heap.size, 0, none⟩ (.int .i64 0)).heap[w.heap.size]? = some (kidO k8 n8 m8 a8 (.slice o8 l8 c8)) := (Below.heap_setCell _ _ _ _ m2).trans ((Below.heap_setCell _ _ _ _ m1).trans hut)
    have hz1 : ((u.setCell ⟨wa1.heap.size, 0, none⟩ (.int .i64 0)).setCell ⟨wa2.heap.size, 0, none⟩ (.int .i64 0)).heap[wa1.heap.size]? = some (oneO 0 30) := (Below.heap_setCell _ _ _ _ m3).trans (setCell_blk ((hub _ m4).trans HK9.out.2.1))
    have hz2 : ((u.setCell ⟨wa1.heap.size, 0, none⟩ (.int .i64 0)).setCell ⟨wa2.heap.size, 0, none⟩ (.int .i64 0)).heap[wa2.heap.size]? = some (oneO 0 3) := setCell_blk ((Below.heap_setCell _ _ _ _ m6).trans ((hub _ m5).trans HK9.out.2.2))
    have hbz : Below w.heap.size w ((u.setCell ⟨wa1.heap.size, 0, none⟩ (.int .i64 0)).setCell ⟨wa2.heap.size, 0, none⟩ (.int .i64 0)) := (hbu.setCell (p := ⟨wa1.heap.size, 0, none⟩) (Nat.le_of_lt hlt.1) _).setCell (p := ⟨wa2.heap.size, 0, none⟩) (by show w.heap.size ≤ wa2.heap.size; omega) _
    have hLz : ListAt (fun b => wa2.heap.size < b) ((u.setCell ⟨wa1.heap.size, 0, none⟩ (.int .i64 0)).setCell ⟨wa2.heap.size, 0, none⟩ (.int .i64 0)) ks8 (.slice o8 l8 c8) := ListAt.frame (fun _ h => h) (fun b h _ => (Below.heap_setCell _ _ _ _ (show b ≠ wa2.heap.size by omega)).trans ((Below.heap_setCell _ _ _ _ (show b ≠ wa1.heap.size by omega)).trans (hub b (by omega)))) HL9.out
    generalize ((u.setCell ⟨wa1.heap.size, 0, none⟩ (.int .i64 0)).setCell ⟨wa2.heap.size, 0, none⟩ (.int .i64 0)) = wz at hz0 hz1 hz2 hbz hLz ⊢
    have HZ : Hid (wz.heap[w.heap.size]? = some (kidO k8 n8 m8 a8 (.slice o8 l8 c8)) ∧ wz.heap[wa1.heap.size]? = some (oneO 0 30) ∧ wz.heap[wa2.heap.size]? = some (oneO 0 3) ∧ Below w.heap.size w wz ∧ ListAt (fun b => wa2.heap.size < b) wz ks8 (.slice o8 l8 c8)) := ⟨hz0, hz1, hz2, hbz, hLz⟩
    clear hut hub hbu hz0 hz1 hz2 hbz hLz hu5 z0 z1 z2 z3 z4 y0 y1 y2 y3 y4 e0 g0 a0 b0 hlt
    refine leaves_cons (f := 25) (args := #[.pointer (some ⟨w.heap.size, 0, none⟩), .pointer (some ⟨wa1.heap.size, 0, none⟩), .pointer (some ⟨wa2.heap.size, 0, none⟩)]) (by simp) (by simp [go_sem]) ?_
    refine (catch_idle w.heap.size wa1.heap.size wa2.heap.size wz).mono ?_
    rintro e u' wy ⟨rfl, rfl, hby⟩
    have hlt := HLT.out
    have hbw : Below w.heap.size w wy := HZ.out.2.2.2.1.trans (hby.mono HZ.out.2.2.2.1.size)
    obtain ⟨q0, q1, q2, q3, q4⟩ := (kid_cells (below_blk hby HZ.out.1)).1
    have q5 := (one_cells (below_blk hby HZ.out.2.1)).1
    have q6 := (one_cells (below_blk hby HZ.out.2.2.1)).1
    have hty : treeIs w.heap.size (.node k8 n8 m8 a8 ks8) wy (kidV k8 n8 m8 a8 (.slice o8 l8 c8)) := treeAt_node.2 ⟨_, rfl, (HZ.out.2.2.2.2.below hby).weaken (fun b h => by show w.heap.size ≤ b; omega)⟩
    clear hby x0 x1 x2 hmf
    simp [Leaves, settle, results, Tryz.results11, go_sem, q0, q1, q2, q3, q4, q5, q6]
    exact ⟨_, rfl, hty, hbw⟩
theorem fault_nonzero {l : List UInt8} {e : Int} {i : Nat} (h : scanP l = .err e i) : e ≠ 0 := by
  rcases Nat.lt_or_ge 16000 l.length with h1 | h1
  · unfold scanP at h; rw [if_pos h1] at h; cases h; decide
  · obtain ⟨us, _, _, hs⟩ := fault_reach h h1
    rcases fault_kinds hs with rfl | rfl | rfl | rfl <;> decide
theorem parse_any (l : List UInt8) (w : World) (hG : GlobAt w) : Calls Tryz.prog 11 #[.string ⟨l.toArray⟩] w (ParsePost (parseP l) w) := by
  unfold parseP
  cases h : scanP l with
  | err r i =>
    refine parse_lex l r i (fault_nonzero h) w (fun w1 => ?_)
    have hx := Lx.scan_any l w1
    rw [h] at hx
    exact hx
  | ok ts =>
    obtain ⟨_, h1, hE, h0⟩ := scan_ok h
    have hx := parse_toks l ts h1 hE h0 w hG (fun w1 => by
      have hx := Lx.scan_any l w1
      rw [h] at hx
      exact hx)
    show Calls _ _ _ _ (ParsePost (match sourceP 102 [] ⟨ts, false⟩ with | .ok ks _ => .ok (.node 1 [] 0 0 ks) | .no e i => .err e i) w)
    cases hs : sourceP 102 [] ⟨ts, false⟩ with
    | ok ks st => rw [hs] at hx; exact hx
    | no e i => rw [hs] at hx; exact hx
end Go.Proofs.YteokdknaadckbaaGreatDoor
