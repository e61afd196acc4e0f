/- The program's Scan. -/
import Derived.Test.YthnnmgiihpdblabLi
namespace Go.Proofs.Ythnnmgiihpdblab
open Go.RowKit

theorem mach_take {l : List UInt8} {k st frm : Nat} {ts : List Tok} (h : k < l.length) : machP l (l.drop k) k st frm ts = if (takeR l (l.getD k 0) st frm k ts).1 = 0 then machP l (l.drop (k + 1)) (k + 1) (takeR l (l.getD k 0) st frm k ts).2.1 (takeR l (l.getD k 0) st frm k ts).2.2.1 (takeR l (l.getD k 0) st frm k ts).2.2.2 else .err (takeR l (l.getD k 0) st frm k ts).1 frm := by
  rw [drop_cons h, machP]
  unfold takeR
  split
  · rfl
  split
  · rfl
  · rfl

theorem fits_take {l : List UInt8} {k st frm : Nat} {ts : List Tok} (hf : Fits l k st frm) (hle : frm ≤ k) (h0 : (takeR l (l.getD k 0) st frm k ts).1 = 0) :
    Fits l (k + 1) (takeR l (l.getD k 0) st frm k ts).2.1 (takeR l (l.getD k 0) st frm k ts).2.2.1 ∧ (takeR l (l.getD k 0) st frm k ts).2.2.1 ≤ k + 1 := by
  unfold takeR at h0 ⊢
  split
  · rename_i hg
    refine ⟨?_, by simp only; omega⟩
    rcases hf.on hg with ⟨h1, _, _⟩ | ⟨_, _, h2⟩
    · simp only; rw [h1]; trivial
    · exact h2
  · rename_i hg
    rw [if_neg hg] at h0
    split
    · exact ⟨Fits.first, by simp only; omega⟩
    · rename_i h1
      rw [if_neg h1] at h0
      exact absurd h0 h1

theorem Fits.le8 {l : List UInt8} {k st frm : Nat} (h : Fits l k st frm) : st ≤ 8 := by
  match st, h with
  | 0, _ => omega
  | 1, _ => omega
  | 2, _ => omega
  | 3, _ => omega
  | 4, _ => omega
  | 5, _ => omega
  | 6, _ => omega
  | 7, _ => omega
  | 8, _ => omega
  | n + 9, h => exact h.elim

theorem take_more {l : List UInt8} {k st frm : Nat} {ts : List Tok} {c : UInt8} : (takeR l c st frm k ts).2.2.2.length ≤ ts.length + 1 := by
  have hO : ∀ o : Option Tok, o.toList.length ≤ 1 := fun o => by cases o <;> simp
  have := hO (endP l st frm k).2
  unfold takeR
  repeat' split
  · simp
  · simp only [List.length_append]; omega
  · simp only [List.length_append]; omega

theorem sub_getD0 {l : List UInt8} {i j : Nat} (h : i < j) : (sub l i j).getD 0 0 = l.getD i 0 := by
  unfold sub
  rw [List.getD_eq_getElem?_getD, List.getD_eq_getElem?_getD, List.getElem?_take, if_pos (by omega), List.getElem?_drop, Nat.add_zero]

theorem Fits.num {l : List UInt8} {k st frm : Nat} (h : Fits l k st frm) (hk : k ≤ l.length) : st = 5 → 0 < (sub l frm k).length ∧ ((sub l frm k).getD 0 0 = 45 → 1 < (sub l frm k).length) := by
  rintro rfl
  obtain ⟨h1, h2, h3, h4⟩ := h
  rw [sub_length (by omega) hk]
  refine ⟨by omega, fun h45 => ?_⟩
  rw [sub_getD0 h1] at h45
  have : numAt l frm = frm + 1 := by unfold numAt; rw [if_pos h45]
  omega

theorem Kept.below {B p : Nat} {v v' : Value} {w w1 w2 : World} (hB : Below B w w1) (hK : Kept p v v' w1 w2) (hw : B ≤ w1.heap.size) (hp : B ≤ p) (hv : ∀ g, v.ownBlock = some g → B ≤ g) : Below B w w2 :=
  ⟨hK.os.trans hB.os, hK.tape.trans hB.tape, hK.output.trans hB.output, Nat.le_trans hB.size hK.size, fun b hb => (hK.block b (by omega) (by omega) (fun e => by have := hv b e.symm; omega)).trans (hB.block b hb)⟩

theorem below_drewN {B : Nat} {a w : World} (h : Below B a w) (k : Nat) : Below B a (w.drewN k) := ⟨h.os, h.tape, h.output, h.size, h.block⟩

def ScanPost (R : Res) (w : World) (e : Ending) (w' : World) : Prop :=
  match R with
  | .ok ts => ∃ g cap, e = .returned (.tuple #[.slice (some ⟨g, 0, none⟩) ts.length cap, .int .i64 0, .int .i64 0]) ∧ w'.ownsRow w.heap.size 37 4 (.slice (some ⟨g, 0, none⟩) ts.length cap) ts.length (tokCells ts) ∧ Below w.heap.size w w'
  | .err r i => e = .returned (.tuple #[.slice none 0 0, .int .i64 r, .int .i64 i]) ∧ Below w.heap.size w w'

theorem own_base {w : World} {base base' n : Nat} {e : TypeId} {size : Nat} {v : Value} {xs : List Value} (h : w.ownsRow base e size v n xs) (hb : base' ≤ base) : w.ownsRow base' e size v n xs := by
  refine ⟨h.1, ?_⟩
  rcases h.2 with h2 | ⟨g, cap, cur, h3, h4, h5⟩
  · exact .inl h2
  · exact .inr ⟨g, cap, cur, h3, Nat.le_trans hb h4, h5⟩

theorem SC.made (l : List UInt8) (w : World) : SC (w.alloc (.cells #[S l, .int .i64 0, .int .i64 0, .slice none 0 0] 48)) w.heap.size l 0 0 (.slice none 0 0) [] := by
  have hb : (w.alloc (.cells #[S l, .int .i64 0, .int .i64 0, .slice none 0 0] 48)).heap[w.heap.size]? = some (.cells #[S l, .int .i64 0, .int .i64 0, .slice none 0 0] 48 (0, 0)) := heap_alloc_new _ _
  refine ⟨?_, ?_, ?_, ?_, ?_, ?_, ?_, World.ownsRow_nil _ _ _ _⟩
  · unfold World.cell?; rw [hb]; rfl
  · unfold World.cell?; rw [hb]; rfl
  · unfold World.cell?; rw [hb]; rfl
  · unfold World.cell?; rw [hb]; rfl
  · unfold World.frozen?; rw [hb]; rfl
  · unfold World.frozen?; rw [hb]; rfl
  · unfold World.frozen?; rw [hb]; rfl

theorem scan_long (l : List UInt8) (w : World) (h : 16000 < l.length) : Calls Try.prog 8 #[S l] w (ScanPost (scanP l) w) := by
  unfold scanP
  rw [if_pos h]
  have h' : (16000 : Int) < l.length := by omega
  go_enter Try.func8, Try.ntmps8
  go_wp2
  go_ret3
  exact ⟨rfl, Below.refl _ _⟩

set_option maxHeartbeats 4000000 in
theorem scan_short (l : List UInt8) (w : World) (h : l.length ≤ 16000) : Calls Try.prog 8 #[S l] w (ScanPost (scanP l) w) := by
  obtain ⟨R, hR⟩ : ∃ R, machP l l 0 0 0 [] = R := ⟨_, rfl⟩
  unfold scanP
  rw [if_neg (by omega), hR]
  have HR : Hid (machP l l 0 0 0 [] = R) := hR
  clear hR
  have h' : (l.length : Int) ≤ 16000 := by omega
  have hd : decide ((16000 : Int) < l.length) = false := decide_eq_false (by omega)
  obtain ⟨inf, hi1, hi2, hi3, hi4⟩ := info37_ex
  have HI : Hid (Try.prog.info? 37 = some inf ∧ inf.zero = some (.agg #[.int .i64 0, .string ⟨#[]⟩, .int .i64 0, .int .i64 0]) ∧ inf.size = 4 ∧ inf.bytes = 40) := ⟨hi1, hi2, hi3, hi4⟩
  clear hi1 hi2 hi3 hi4
  go_enter Try.func8, Try.ntmps8
  go_wp2_with fail
  clear hd
  go_loopw [16] (fun i wr => ∃ (k st frm : Nat) (v : Value) (ts : List Tok), i = .int .i64 k ∧ k ≤ l.length ∧ frm ≤ k ∧ ts.length ≤ k ∧ Hid (SC wr w.heap.size l st frm v ts) ∧ Hid (Below w.heap.size w wr) ∧ Hid (Fits l k st frm) ∧ Hid (machP l (l.drop k) k st frm ts = R)) (fun i _ => l.length - (intOf i).toNat)
  case atStart => exact ⟨0, 0, 0, .slice none 0 0, [], rfl, by omega, by omega, by simp, SC.made l w, (Below.refl _ _).alloc (Nat.le_refl _) _, trivial, HR.out⟩
  case round =>
    obtain ⟨k, st, frm, v, ts, rfl, hk, hfk, htk, HS, HB, HF, HM⟩ := hrel
    have hvb : ∀ g, v.ownBlock = some g → w.heap.size ≤ g := fun g hg => by have := (HS.out.own.lt g hg).1; omega
    have HVB : Hid (∀ g, v.ownBlock = some g → w.heap.size ≤ g) := hvb
    have HSZ : Hid (w.heap.size ≤ wr.heap.size) := HB.out.size
    clear hvb
    by_cases hlt : k < l.length
    · have hk' : (k : Int) < l.length := by omega
      have HT : Hid (Calls Try.prog 20 #[.pointer (some ⟨w.heap.size, 0, none⟩), .int .i64 k] wr (TakePost w.heap.size l v (takeR l (l.getD k 0) st frm k ts) wr)) := take_any w.heap.size l st frm k v ts wr HS.out (by omega) HF.out.le8 hfk hlt (by omega) (HF.out.num (by omega))
      have hm0 := HM.out
      rw [mach_take hlt] at hm0
      have hft0 := fun h0 => fits_take (ts := ts) HF.out hfk h0
      have hmo : (takeR l (l.getD k 0) st frm k ts).2.2.2.length ≤ ts.length + 1 := take_more
      have hfe : (takeR l (l.getD k 0) st frm k ts).1 ≠ 0 → (takeR l (l.getD k 0) st frm k ts).2.2.1 = frm := fun h0 => by
        unfold takeR at h0 ⊢
        split
        · rfl
        split
        · rename_i h1 h2; rw [if_neg h1, if_pos h2] at h0; exact absurd rfl h0
        · rfl
      generalize takeR l (l.getD k 0) st frm k ts = r at *
      obtain ⟨r1, st2, frm2, ts2⟩ := r
      simp only at hm0 hft0 hmo hfe
      clear HF HM HS
      by_cases hr : r1 = 0
      · subst hr
        rw [if_pos rfl] at hm0
        have HM2 : Hid (machP l (l.drop (k + 1)) (k + 1) st2 frm2 ts2 = R) := hm0
        have HF2 : Hid (Fits l (k + 1) st2 frm2) := (hft0 rfl).1
        have hf2 := (hft0 rfl).2
        clear hm0 hft0 hfe
        go_wp2_with fail
        refine HT.out.mono ?_
        rintro e w2 ⟨rfl, v', h1, h2⟩
        have HS2 : Hid (SC w2 w.heap.size l st2 frm2 v' ts2) := h1
        have HB2 : Hid (Below w.heap.size w w2) := h2.below HB.out HSZ.out (Nat.le_refl _) HVB.out
        clear h1 h2
        go_wp2
        go_roundw
        case rel => exact ⟨k + 1, st2, frm2, v', ts2, by go_num, by omega, hf2, by omega, HS2.out, HB2.out, HF2.out, HM2.out⟩
        case measure => simp [intOf]; omega
      · rw [if_neg hr] at hm0
        have HM2 : Hid (Res.err r1 frm = R) := hm0
        have hr1 : (r1 == 0) = false := by simpa using hr
        obtain rfl := hfe hr
        clear hm0 hft0 hr hfe
        go_wp2_with fail
        refine HT.out.mono ?_
        rintro e w2 ⟨rfl, v', h1, h2⟩
        have hc2 := h1.f
        have HB2 : Hid (Below w.heap.size w w2) := h2.below HB.out HSZ.out (Nat.le_refl _) HVB.out
        clear h1 h2
        go_wp2_with fail
        go_quiet (fail)
        go_wp2
        go_ret3
        rw [← HM2.out]
        exact ⟨rfl, below_drewN HB2.out _⟩
    · obtain rfl : k = l.length := by omega
      have HT : Hid (Calls Try.prog 21 #[.pointer (some ⟨w.heap.size, 0, none⟩), .int .i64 l.length] wr (EndPost w.heap.size l st frm v ts (endP l st frm l.length) wr)) := end_any w.heap.size l st frm l.length v ts wr HS.out (by omega) HF.out.le8 hfk (Nat.le_refl _) (by omega) (HF.out.num (Nat.le_refl _))
      have hm0 := HM.out
      rw [List.drop_length, machP] at hm0
      have hol : (endP l st frm l.length).2.toList.length ≤ 1 := by cases (endP l st frm l.length).2 <;> simp
      generalize endP l st frm l.length = r at *
      obtain ⟨r1, r2⟩ := r
      simp only at hm0 hol
      clear HF HM HS
      by_cases hr : r1 = 0
      · subst hr
        rw [if_pos rfl] at hm0
        have HM2 : Hid (Res.ok (ts ++ r2.toList ++ [⟨5, [], 0, l.length⟩]) = R) := hm0
        clear hm0
        go_wp2_with fail
        refine HT.out.mono ?_
        rintro e w2 ⟨rfl, v', h1, h2⟩
        have HB2 : Hid (Below w.heap.size w w2) := h2.below HB.out HSZ.out (Nat.le_refl _) HVB.out
        have hc3 := h1.t
        obtain ⟨oa, cap0, hv⟩ := own_form h1.own
        obtain ⟨us, hus⟩ : ∃ us, ts ++ r2.toList = us := ⟨_, rfl⟩
        have hul : us.length ≤ 16001 := by rw [← hus, List.length_append]; omega
        rw [hus] at HM2 h1 hv
        have HO : Hid (SC w2 w.heap.size l st frm v' us) := h1
        obtain ⟨N, hN⟩ : ∃ N, us.length = N := ⟨_, rfl⟩
        rw [hN] at hv hul
        have HN : Hid (us.length = N) := hN
        have HV : Hid (v' = .slice oa N cap0) := hv
        have HOO : Hid (∀ w3 : World, (∀ b, b < w2.heap.size → w3.heap[b]? = w2.heap[b]?) → w3.ownsRow (w.heap.size + 1) 37 4 v' N (tokCells us)) := fun w3 h3 => by
          have ho := h1.own
          rw [hN] at ho
          refine ⟨ho.1, ?_⟩
          rcases ho.2 with hn | ⟨g, cap, cur, rfl, hb, hgg, rest⟩
          · exact .inl hn
          · exact .inr ⟨g, cap, cur, rfl, hb, by rw [h3 g (Array.getElem?_eq_some_iff.1 hgg).1]; exact hgg, rest⟩
        have HSZ2 : Hid (w.heap.size + 1 ≤ w2.heap.size) := h1.lt
        have HVB2 : Hid (∀ g, v'.ownBlock = some g → w.heap.size ≤ g) := fun g hg => by have := (h1.own.lt g hg).1; omega
        rw [hv] at hc3
        clear h1 h2 hv hN hus hol
        go_wp2_with (at_builtin; refine Hid.out ?_)
        refine (show Hid _ from ?_)
        refine wpList_append_lies _ rfl _ _ 25 rfl (w.heap.size + 1) 37 inf (.agg #[.int .i64 0, .string ⟨#[]⟩, .int .i64 0, .int .i64 0]) 4 40 Try.underlying25 HI.out.1 HI.out.2.1 HI.out.2.2.1 HI.out.2.2.2 rfl (by decide) v' N (tokCells us) (by rw [HV.out]; rfl) (HOO.out _ (fun b hb => Below.heap_alloc _ _ b hb)) ⟨w2.heap.size, 0, none⟩ 1 1 (tokC ⟨5, [], 0, l.length⟩) rfl rfl (World.news_of_block (cs := #[.int .i64 5, S [], .int .i64 0, .int .i64 l.length]) (t := 37) (fr := (0, 0)) (heap_alloc_new _ _)) (by simp [tokC, Value.oneCell']) (by omega) (by unfold maxLen; omega) (by omega) (by have := HSZ2.out; simp; omega) _ rfl ?_
        intro g cap w3 hown hgrow hat hlt3
        have HOW : Hid (w3.ownsRow w.heap.size 37 4 (.slice (some ⟨g, 0, none⟩) (N + 1) cap) (N + 1) (tokCells us ++ tokC ⟨5, [], 0, l.length⟩)) := own_base hown (by omega)
        have HB3 : Hid (Below w.heap.size w w3) := (HB2.out.alloc (by have := HSZ2.out; omega) _).grown hgrow (by have := HSZ2.out; simp; omega) HVB2.out
        clear hown hgrow hat hlt3
        go_wp2
        go_ret3
        rw [← HM2.out]
        refine ⟨g, cap, ?_, ?_, HB3.out⟩
        · rw [show (us ++ [(⟨5, [], 0, l.length⟩ : Tok)]).length = N + 1 by rw [List.length_append, HN.out]; rfl]; rfl
        · rw [show (us ++ [(⟨5, [], 0, l.length⟩ : Tok)]).length = N + 1 by rw [List.length_append, HN.out]; rfl, tokCells_snoc]; exact HOW.out
      · rw [if_neg hr] at hm0
        have HM2 : Hid (Res.err r1 frm = R) := hm0
        have hr1 : (r1 == 0) = false := by simpa using hr
        clear hm0 hr
        go_wp2_with fail
        refine HT.out.mono ?_
        rintro e w2 ⟨rfl, v', h1, h2⟩
        have hc2 := h1.f
        have HB2 : Hid (Below w.heap.size w w2) := h2.below HB.out HSZ.out (Nat.le_refl _) HVB.out
        clear h1 h2
        go_wp2_with fail
        go_quiet (fail)
        go_wp2
        go_ret3
        rw [← HM2.out]
        exact ⟨rfl, below_drewN HB2.out _⟩

theorem scan_any (l : List UInt8) (w : World) : Calls Try.prog 8 #[S l] w (ScanPost (scanP l) w) := by
  rcases Nat.lt_or_ge 16000 l.length with h | h
  · exact scan_long l w h
  · exact scan_short l w h

end Go.Proofs.Ythnnmgiihpdblab
