/- LexScans' walk. -/
import Derived.Test.YthnnmgiihpdblabMl
import Derived.Test.YthnnmgiihpdblabLn
namespace Go.Proofs.Ythnnmgiihpdblab
open Go.RowKit

def resCode : Res → Int
  | .ok _ => 0
  | .err r _ => r
def resPos : Res → Int
  | .ok _ => 0
  | .err _ p => p

def UPost (l : List UInt8) (w : World) (e : Ending) (w' : World) : Prop :=
  ∃ (X : Option Addr) (gt : Option Nat) (ct : Nat), e = .returned (.tuple #[.slice X (toksOf (scanP l)).length ct, .int .i64 (resCode (scanP l)), .int .i64 (resPos (scanP l))]) ∧ gt.map (fun g => (⟨g, 0, none⟩ : Addr)) = X ∧
    w'.ownsRow w.heap.size 37 4 (sv gt (toksOf (scanP l)).length ct) (toksOf (scanP l)).length (tokCells (toksOf (scanP l))) ∧ Below w.heap.size w w'

theorem ScanPost.uni {l : List UInt8} {w w' : World} {e : Ending} (h : ScanPost (scanP l) w e w') : UPost l w e w' := by
  unfold UPost
  generalize scanP l = R at h ⊢
  cases R with
  | ok ts =>
    obtain ⟨g, cap, rfl, ho, hB⟩ := h
    exact ⟨_, some g, cap, rfl, rfl, ho, hB⟩
  | err r p =>
    obtain ⟨rfl, hB⟩ := h
    exact ⟨_, none, 0, rfl, rfl, World.ownsRow_nil _ _ _ _, hB⟩

theorem row_of_own {w : World} {B ct : Nat} {gt : Option Nat} {ts : List Tok} (ho : w.ownsRow B 37 4 (sv gt ts.length ct) ts.length (tokCells ts)) : TokRow w (sv gt ts.length ct) ts := by
  cases gt with
  | none =>
    rcases ho.2 with ⟨h1, h2⟩ | ⟨g, c, cur, h1, _⟩
    · have hz : ts = [] := List.length_eq_zero_iff.1 h2
      rw [h1, hz]; exact .nil w
    · injection h1 with h1
      cases h1
  | some g => exact .of_own ho

theorem L1.fresh {W w : World} {B ga : Nat} {ask : Nat → List UInt8} {N : Nat → Nat} {TS : Nat → List Tok} {i : Nat} {v : Value} {G : Nat → Option Nat} {C : Nat → Nat} (h : L1 W w B ga ask N TS i v G C) (g : Nat) (hg : w.heap.size ≤ g) : (∀ t, t < i → G t ≠ some g) ∧ g ≠ ga ∧ v.ownBlock ≠ some g := by
  refine ⟨fun t ht e => ?_, fun e => ?_, fun e => ?_⟩
  · have := ((h.own t ht).lt g (by rw [sv_block]; exact e)).2
    omega
  · have := h.galt; omega
  · have := (h.aown.lt g e).2; omega

theorem kept_none {w w' : World} {B : Nat} {e : TypeId} {size n : Nat} {v : Value} {xs : List Value} (h : w.ownsRow B e size v n xs) (hg : w.grownBy w' none) : w'.ownsRow B e size v n xs :=
  h.kept hg (by cases v.ownBlock <;> simp)

theorem L1.start {W w1 : World} (hB : Below W.heap.size W w1) (s o : List UInt8) (N : Nat → Nat) (TS : Nat → List Tok) : L1 W (w1.alloc (.cells #[S s, S s, S o, S s] 9)) W.heap.size w1.heap.size (fun t => if t = 2 then o else s) N TS 0 (.slice none 0 0) (fun _ => none) (fun _ => 0) := by
  refine ⟨World.ownsRow_nil _ _ _ _, fun t ht => by omega, fun t u ht => by omega, fun t ht => by omega, by simp [Value.ownBlock], fun t ht => by omega, fun t ht => ?_, by simp, hB.size, hB.alloc hB.size _⟩
  have hb : (w1.alloc (.cells #[S s, S s, S o, S s] 9)).heap[w1.heap.size]? = some (.cells #[S s, S s, S o, S s] 9 (0, 0)) := heap_alloc_new _ _
  match t, ht with
  | 0, _ => unfold World.cell?; rw [hb]; rfl
  | 1, _ => unfold World.cell?; rw [hb]; rfl
  | 2, _ => unfold World.cell?; rw [hb]; rfl
  | 3, _ => unfold World.cell?; rw [hb]; rfl

set_option maxRecDepth 4000 in
set_option maxHeartbeats 8000000 in
theorem lexScans_any (s o : List UInt8) (W : World) : Calls Try.prog 3 #[S s, S o] W fun e w' => e = .returned (.bool true) ∧ Below W.heap.size W w' := by
  have HK : Hid (Calls Try.prog 6 #[] W fun e w' => e = .returned (.bool true) ∧ Below W.heap.size W w') := known_any W
  have H7 : Hid (∀ l w, Calls Try.prog 7 #[S l] w (UPost l w)) := fun l w => (rscan_any l w).mono fun e w' h => h.uni
  have H8 : Hid (∀ l w, Calls Try.prog 8 #[S l] w (UPost l w)) := fun l w => (scan_any l w).mono fun e w' h => h.uni
  obtain ⟨inf2, hi1, hi2, hi3, hi4⟩ := info25_ex
  have HI2 : Hid (Try.prog.info? 25 = some inf2 ∧ inf2.zero = some (.slice none 0 0) ∧ inf2.size = 1 ∧ inf2.bytes = 24) := ⟨hi1, hi2, hi3, hi4⟩
  clear hi1 hi2 hi3 hi4
  obtain ⟨ask, hask⟩ : ∃ f : Nat → List UInt8, f = fun t => if t = 2 then o else s := ⟨_, rfl⟩
  obtain ⟨TS, hTS⟩ : ∃ f : Nat → List Tok, f = fun t => toksOf (scanP (ask t)) := ⟨_, rfl⟩
  obtain ⟨N, hN⟩ : ∃ f : Nat → Nat, f = fun t => (TS t).length := ⟨_, rfl⟩
  have HTS : Hid (∀ t, toksOf (scanP (ask t)) = TS t) := fun t => by rw [hTS]
  have HN : Hid (∀ t, (TS t).length = N t) := fun t => by rw [hN]
  have HNb : Hid (∀ t, N t ≤ 20000) := fun t => by rw [← HN.out, ← HTS.out]; exact toks_le _
  have HST : Hid (∀ w1, Below W.heap.size W w1 → L1 W (w1.alloc (.cells #[S s, S s, S o, S s] 9)) W.heap.size w1.heap.size ask N TS 0 (.slice none 0 0) (fun _ => none) (fun _ => 0)) := fun w1 hB => by
    rw [hask]; exact L1.start hB s o N TS
  clear hask hTS hN
  go_enter Try.func3, Try.ntmps3
  go_wp2_with fail
  refine HK.out.mono ?_
  rintro e w1 ⟨rfl, hB⟩
  have HS := HST.out w1 hB
  have HL : Hid (L1 W (w1.alloc (.cells #[S s, S s, S o, S s] 9)) W.heap.size w1.heap.size ask N TS 0 (.slice none 0 0) (fun _ => none) (fun _ => 0)) := HS
  clear hB HS HST
  go_wp2_with fail
  obtain ⟨ga, hga⟩ : ∃ ga, w1.heap.size = ga := ⟨_, rfl⟩
  rw [hga] at HL ⊢
  clear hga
  go_loopw [7, 8] (fun l i wr => ∃ (k cl : Nat) (ol : Option Addr) (G : Nat → Option Nat) (C : Nat → Nat), i = .int .i64 k ∧ l = .slice ol k cl ∧ k ≤ 4 ∧ Hid (L1 W wr W.heap.size ga ask N TS k (.slice ol k cl) G C)) (fun _ i _ => 4 - (intOf i).toNat)
  case atStart => exact ⟨0, 0, none, _, _, rfl, rfl, by omega, HL.out⟩
  case round =>
    obtain ⟨k, cl, ol, G, C, rfl, rfl, hk, HL1⟩ := hrel
    clear HL
    by_cases hk4 : k < 4
    · have hk' : (k : Int) < 4 := by omega
      have hck := HL1.out.asked k hk4
      obtain ⟨a, ha⟩ : ∃ a, ask k = a := ⟨_, rfl⟩
      obtain ⟨ts, hts⟩ : ∃ ts, TS k = ts := ⟨_, rfl⟩
      obtain ⟨n, hn⟩ : ∃ n, ts.length = n := ⟨_, rfl⟩
      have HA : Hid (ask k = a) := ha
      have HT : Hid (TS k = ts) := hts
      have HNk : Hid (N k = n) := by rw [← HN.out k, hts]; exact hn
      have HNl : Hid (ts.length = n) := hn
      have HTa : Hid (toksOf (scanP a) = ts) := by rw [← ha, HTS.out]; exact hts
      have hnb : (n : Int) ≤ 20000 := by have := HNb.out k; rw [HNk.out] at this; omega
      rw [ha] at hck
      clear ha hts hn
      obtain ⟨cd, hcd⟩ : ∃ cd, resCode (scanP a) = cd := ⟨_, rfl⟩
      obtain ⟨po, hpo⟩ : ∃ po, resPos (scanP a) = po := ⟨_, rfl⟩
      have HU : Hid (∀ w e w', UPost a w e w' → ∃ (X : Option Addr) (gt : Option Nat) (ct : Nat), e = .returned (.tuple #[.slice X n ct, .int .i64 cd, .int .i64 po]) ∧ gt.map (fun g => (⟨g, 0, none⟩ : Addr)) = X ∧ w'.ownsRow w.heap.size 37 4 (sv gt n ct) n (tokCells ts) ∧ Below w.heap.size w w') := fun w e w' h => by
        unfold UPost at h
        rw [HTa.out, HNl.out, hcd, hpo] at h
        exact h
      clear hcd hpo
      have H7a : Hid (∀ w, Calls Try.prog 7 #[S a] w (UPost a w)) := H7.out a
      have H8a : Hid (∀ w, Calls Try.prog 8 #[S a] w (UPost a w)) := H8.out a
      go_wp2_with fail
      refine (H7a.out _).mono ?_
      rintro e w2 hP
      obtain ⟨X, gx, cx, rfl, hX, hox, hB2⟩ := HU.out _ _ _ hP
      have HL2 : Hid (L1 W w2 W.heap.size ga ask N TS k (.slice ol k cl) G C) := HL1.out.grown (Below.toGrown hB2) rfl
      have HOX : Hid (w2.ownsRow wr.heap.size 37 4 (sv gx n cx) n (tokCells ts)) := hox
      have HX : Hid (gx.map (fun g => (⟨g, 0, none⟩ : Addr)) = X) := hX
      have hck2 : w2.cell? ⟨ga, k, none⟩ = some (S a) := by rw [← HA.out]; exact HL2.out.asked k hk4
      clear hP hX hox hB2 hck
      go_wp2_with fail
      refine (H8a.out _).mono ?_
      rintro e w3 hP
      obtain ⟨Y, gt, ct, rfl, hY, hoy, hB3⟩ := HU.out _ _ _ hP
      have HOX3 : Hid (w3.ownsRow wr.heap.size 37 4 (sv gx n cx) n (tokCells ts)) := kept_none HOX.out (Below.toGrown hB3)
      have HOY : Hid (w3.ownsRow w2.heap.size 37 4 (sv gt n ct) n (tokCells ts)) := hoy
      have HY : Hid (gt.map (fun g => (⟨g, 0, none⟩ : Addr)) = Y) := hY
      have HL3 : Hid (L1 W w3 W.heap.size ga ask N TS k (.slice ol k cl) G C) := HL2.out.grown (Below.toGrown hB3) rfl
      have HF : Hid (∀ g, gt = some g → (∀ t, t < k → G t ≠ some g) ∧ g ≠ ga ∧ (Value.slice ol k cl).ownBlock ≠ some g) := fun g e => HL2.out.fresh g ((HOY.out.lt g (by rw [sv_block]; exact e)).1)
      have HB23 : Hid (W.heap.size ≤ w2.heap.size) := HL2.out.below.size
      have H9 : Hid (Calls Try.prog 9 #[.slice Y n ct, .slice X n cx] w3 fun e w' => e = .returned (.bool true) ∧ ∃ m, w' = w3.drewN m) := by
        have hx1 : TokRow w3 (.slice X n cx) ts := by
          have := HOX3.out
          rw [← HNl.out] at this ⊢
          rw [← HX.out]; exact row_of_own this
        have hy1 : TokRow w3 (.slice Y n ct) ts := by
          have := HOY.out
          rw [← HNl.out] at this ⊢
          rw [← HY.out]; exact row_of_own this
        have := same_any ts ts _ _ w3 hy1 hx1 (by rw [HNl.out]; omega)
        rwa [decide_eq_true rfl] at this
      clear hP hY hoy hB3 hck2 HOX HOX3
      go_wp2_with fail
      refine H9.out.mono ?_
      rintro e w4 ⟨rfl, m, rfl⟩
      have hgd : w3.grownBy (w3.drewN m) none := Below.toGrown (below_drewN (Below.refl _ w3) m)
      have HL4 : Hid (L1 W (w3.drewN m) W.heap.size ga ask N TS k (.slice ol k cl) G C) := HL3.out.grown hgd rfl
      have HO4 : Hid ((w3.drewN m).ownsRow w2.heap.size 37 4 (sv gt n ct) n (tokCells ts)) := kept_none HOY.out hgd
      clear hgd HL3 HOY
      obtain ⟨w5, hw5⟩ : ∃ w5, w3.drewN m = w5 := ⟨_, rfl⟩
      rw [hw5] at HL4 HO4 ⊢
      clear hw5
      go_wp2_with (at_builtin; refine Hid.out ?_)
      refine (show Hid _ from ?_)
      have HV : Hid (L1 W (w5.alloc (.cells #[.slice Y n ct] 25)) W.heap.size ga ask N TS k (.slice ol k cl) G C) := HL4.out.grown (World.grownBy_alloc _ _ _) rfl
      have HO5 : Hid ((w5.alloc (.cells #[.slice Y n ct] 25)).ownsRow W.heap.size 37 4 (sv gt n ct) n (tokCells ts)) := own_base (HO4.out.alloc _) HB23.out
      refine wpList_append_parted rfl _ _ 24 rfl W.heap.size 25 inf2 (.slice none 0 0) 1 24 Try.underlying24 HI2.out.1 HI2.out.2.1 HI2.out.2.2.1 HI2.out.2.2.2 rfl (by decide) (.slice ol k cl) k (ELof G N C k) rfl HV.out.aown ⟨w5.heap.size, 0, none⟩ 1 [.slice Y n ct] rfl rfl (World.news_of_block (cs := #[.slice Y n ct]) (t := 25) (fr := (0, 0)) (heap_alloc_new _ _)) (by simp [Value.oneCell']) (by unfold maxLen; omega) (by omega) HV.out.below.size ?_
      intro q cap w6 hown hpart hlt3
      have HL6 : Hid (L1 W w6 W.heap.size ga ask N TS (k + 1) (.slice (some ⟨q, 0, none⟩) (k + 1) cap) (setAt G k gt) (setAt C k ct)) := HV.out.add (by rw [HNk.out, HT.out]; exact HO5.out) HF.out (by rw [HNk.out]; unfold sv; rw [HY.out]; exact hown) hpart
      clear hown hpart hlt3 HV HO5 HL4 HO4
      go_wp2
      go_roundw
      case rel => exact ⟨k + 1, cap, some ⟨q, 0, none⟩, _, _, by go_num, rfl, by omega, HL6.out⟩
      case measure => simp [intOf]; omega
    · obtain rfl : k = 4 := by omega
      rw [show ((4 : Nat) : Int) = 4 from rfl]
      obtain ⟨q, hq⟩ : ∃ q, ol = some ⟨q, 0, none⟩ := by
        rcases HL1.out.aown.2 with ⟨_, h0⟩ | ⟨q, c, cur, e, _⟩
        · omega
        · injection e with e1 _ _
          exact ⟨q, e1⟩
      subst hq
      go_wp2_with fail
      go_loopw [16] (fun i wr => ∃ k : Nat, i = .int .i64 k ∧ k ≤ 4 ∧ Hid (L1 W wr W.heap.size ga ask N TS 4 (.slice (some ⟨q, 0, none⟩) 4 cl) G C)) (fun i _ => 4 - (intOf i).toNat)
      case atStart => exact ⟨0, rfl, by omega, HL1.out⟩
      case round =>
        obtain ⟨k, rfl, hk, HL2⟩ := hrel
        clear HL1
        by_cases hk4 : k < 4
        · have hk' : (k : Int) < 4 := by omega
          have hck := HL2.out.asked k hk4
          obtain ⟨a, ha⟩ : ∃ a, ask k = a := ⟨_, rfl⟩
          obtain ⟨ts, hts⟩ : ∃ ts, TS k = ts := ⟨_, rfl⟩
          obtain ⟨n, hn⟩ : ∃ n, ts.length = n := ⟨_, rfl⟩
          have HNk : Hid (N k = n) := by rw [← HN.out k, hts]; exact hn
          have HNl : Hid (ts.length = n) := hn
          have HTa : Hid (toksOf (scanP a) = ts) := by rw [← ha, HTS.out]; exact hts
          have hnb : (n : Int) ≤ 20000 := by have := HNb.out k; rw [HNk.out] at this; omega
          have HT : Hid (TS k = ts) := hts
          rw [ha] at hck
          clear ha hts hn
          obtain ⟨cd, hcd⟩ : ∃ cd, resCode (scanP a) = cd := ⟨_, rfl⟩
          obtain ⟨po, hpo⟩ : ∃ po, resPos (scanP a) = po := ⟨_, rfl⟩
          have HU : Hid (∀ w e w', UPost a w e w' → ∃ (X : Option Addr) (gt : Option Nat) (ct : Nat), e = .returned (.tuple #[.slice X n ct, .int .i64 cd, .int .i64 po]) ∧ gt.map (fun g => (⟨g, 0, none⟩ : Addr)) = X ∧ w'.ownsRow w.heap.size 37 4 (sv gt n ct) n (tokCells ts) ∧ Below w.heap.size w w') := fun w e w' h => by
            unfold UPost at h
            rw [HTa.out, HNl.out, hcd, hpo] at h
            exact h
          clear hcd hpo
          have H7a : Hid (∀ w, Calls Try.prog 7 #[S a] w (UPost a w)) := H7.out a
          go_wp2_with fail
          refine (H7a.out _).mono ?_
          rintro e w2 hP
          obtain ⟨X, gx, cx, rfl, hX, hox, hB2⟩ := HU.out _ _ _ hP
          have HL3 : Hid (L1 W w2 W.heap.size ga ask N TS 4 (.slice (some ⟨q, 0, none⟩) 4 cl) G C) := HL2.out.grown (Below.toGrown hB2) rfl
          obtain ⟨Y, hY⟩ : ∃ Y, (G k).map (fun g => (⟨g, 0, none⟩ : Addr)) = Y := ⟨_, rfl⟩
          obtain ⟨ct, hct⟩ : ∃ ct, C k = ct := ⟨_, rfl⟩
          have hsv : sv (G k) (N k) (C k) = .slice Y n ct := by unfold sv; rw [hY, hct, HNk.out]
          have hcl : w2.cell? ⟨q, k, none⟩ = some (.slice Y n ct) := by
            rw [← hsv]; exact HL3.out.ls.cell k hk4
          have H9 : Hid (Calls Try.prog 9 #[.slice Y n ct, .slice X n cx] w2 fun e w' => e = .returned (.bool true) ∧ ∃ m, w' = w2.drewN m) := by
            have hx1 : TokRow w2 (.slice X n cx) ts := by
              rw [← HNl.out] at hox ⊢
              rw [← hX]; exact row_of_own hox
            have hy1 : TokRow w2 (.slice Y n ct) ts := by
              rw [← hsv, ← HT.out]; exact HL3.out.row (fun t => (HN.out t).symm) k hk4
            have := same_any ts ts _ _ w2 hy1 hx1 (by rw [HNl.out]; omega)
            rwa [decide_eq_true rfl] at this
          clear hP hX hox hB2 hck hY hct hsv
          go_wp2_with fail
          refine H9.out.mono ?_
          rintro e w4 ⟨rfl, m, rfl⟩
          have HL4 : Hid (L1 W (w2.drewN m) W.heap.size ga ask N TS 4 (.slice (some ⟨q, 0, none⟩) 4 cl) G C) := HL3.out.grown (Below.toGrown (below_drewN (Below.refl _ w2) m)) rfl
          clear HL3 HL2 hcl
          go_wp2
          go_roundw
          case rel => exact ⟨k + 1, by go_num, by omega, HL4.out⟩
          case measure => simp [intOf]; omega
        · obtain rfl : k = 4 := by omega
          have HO : Hid (Calls Try.prog 10 #[.slice (some ⟨q, 0, none⟩) 4 cl] wr fun e w' => e = .returned (.bool true) ∧ Below W.heap.size wr w') := owned_any wr W.heap.size q 4 cl G N C HL2.out.ls HL2.out.below.size (by omega) (fun i _ => Nat.le_trans (HNb.out i) (by omega))
          have HB : Hid (Below W.heap.size W wr) := HL2.out.below
          clear HL2
          go_wp2_with fail
          refine HO.out.mono ?_
          rintro e w9 ⟨rfl, hB9⟩
          have HB9 : Hid (Below W.heap.size W w9) := HB.out.trans hB9
          clear hB9
          go_wp2
          go_ret
          exact ⟨rfl, HB9.out⟩

end Go.Proofs.Ythnnmgiihpdblab
