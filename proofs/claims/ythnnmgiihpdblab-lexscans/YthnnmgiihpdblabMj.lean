/- Lists of tokens that are written over and grown: list by list. -/
import Derived.Test.YthnnmgiihpdblabMi
namespace Go.Proofs.Ythnnmgiihpdblab
open Go.RowKit

structure Q2 (W w : World) (B gl m j : Nat) (G : Nat → Option Nat) (N C : Nat → Nat) (va : Value) (T : Nat) (EL : List Value) (Eo : Nat → Option Nat) (En : Nat → Nat) : Prop where
  ls : Ls w B gl m j G N C
  mark : ∀ i g, j ≤ i → i < m → G i = some g → Mk w g (N i) (-5 - (i : Int))
  aown : w.ownsRow B 25 1 va T EL
  ent : ∀ t v, EL[t]? = some v → Ent w v (-5 - ((t / 20 : Nat) : Int)) (Eo t) (En t)
  aE : ∀ t, t < T → Eo t = none ∨ Eo t ≠ va.ownBlock
  aL : va.ownBlock ≠ some gl
  aG : ∀ i, j ≤ i → i < m → G i = none ∨ G i ≠ va.ownBlock
  eG : ∀ t i, t < T → j ≤ i → i < m → Eo t = none ∨ Eo t ≠ G i
  below : Below B W w
  hB : B ≤ w.heap.size

theorem Q2.start {W w : World} {B gl m : Nat} {G : Nat → Option Nat} {N C : Nat → Nat} (h : Ls w B gl m 0 G N C) (hm : ∀ i g, i < m → G i = some g → Mk w g (N i) (-5 - (i : Int))) (hb : Below B W w) (hB : B ≤ w.heap.size) : Q2 W w B gl m 0 G N C (.slice none 0 0) 0 [] (fun _ => none) (fun _ => 0) :=
  ⟨h, fun i g _ h2 h3 => hm i g h2 h3, World.ownsRow_nil _ _ _ _, fun t v hv => by simp at hv, fun t ht => by omega, by simp [Value.ownBlock], fun i _ _ => by cases G i <;> simp [Value.ownBlock], fun t i ht => by omega, hb, hB⟩

theorem Q2.begin {W w : World} {B gl m j : Nat} {G : Nat → Option Nat} {N C : Nat → Nat} {va : Value} {T : Nat} {EL : List Value} {Eo : Nat → Option Nat} {En : Nat → Nat} (h : Q2 W w B gl m j G N C va T EL Eo En) (hj : j < m) : P2 W w B gl m j G N C va T EL Eo En (G j) (N j) (C j) := by
  refine ⟨h.ls.up (j + 1) (by omega), fun i g h1 h2 h3 => h.mark i g (by omega) h2 h3, h.aown, h.ent, fun e => h.ls.nil j hj e, fun g e => ⟨h.ls.row j g (Nat.le_refl _) hj e, h.mark j g (Nat.le_refl _) hj e⟩, h.aE, h.aG j (Nat.le_refl _) hj, h.aL, fun i h1 h2 => h.aG i (by omega) h2, h.ls.ne j hj, fun i h1 h2 => ?_, fun t ht e e2 => ?_, fun t i ht h1 h2 => h.eG t i ht (by omega) h2, h.below, h.hB⟩
  · cases hg : G i with
    | none => exact .inl rfl
    | some g => right; intro e; exact h.ls.sep i j g h2 hj (by omega) hg e.symm
  · rcases h.eG t j ht (Nat.le_refl _) hj with h1 | h1
    · rw [h1] at e; exact absurd e.symm e2
    · exact absurd e h1

theorem P2.done {W w : World} {B gl m j : Nat} {G : Nat → Option Nat} {N C : Nat → Nat} {va : Value} {T : Nat} {EL : List Value} {Eo : Nat → Option Nat} {En : Nat → Nat} {xo : Option Nat} {nx cx : Nat} (h : P2 W w B gl m j G N C va T EL Eo En xo nx cx) : Q2 W w B gl m (j + 1) G N C va T EL Eo En :=
  ⟨h.ls, fun i g h1 h2 h3 => h.mark i g (by omega) h2 h3, h.aown, h.ent, h.aE, h.aL, fun i h1 h2 => h.aG i (by omega) h2, fun t i ht h1 h2 => h.eG t i ht (by omega) h2, h.below, h.hB⟩

theorem P2.xown {W w : World} {B gl m j : Nat} {G : Nat → Option Nat} {N C : Nat → Nat} {va : Value} {T : Nat} {EL : List Value} {Eo : Nat → Option Nat} {En : Nat → Nat} {xo : Option Nat} {nx cx : Nat} (h : P2 W w B gl m j G N C va T EL Eo En xo nx cx) : ∃ xs, w.ownsRow B 37 4 (sv xo nx cx) nx xs := by
  cases xo with
  | none =>
    obtain ⟨rfl, rfl⟩ := h.xnil rfl
    exact ⟨[], World.ownsRow_nil _ _ _ _⟩
  | some g => exact (h.xr g rfl).1.own

theorem Q2.len {W w : World} {B gl m j : Nat} {G : Nat → Option Nat} {N C : Nat → Nat} {va : Value} {T : Nat} {EL : List Value} {Eo : Nat → Option Nat} {En : Nat → Nat} (h : Q2 W w B gl m j G N C va T EL Eo En) : EL.length = T := by simpa using h.aown.1

set_option maxRecDepth 4000 in
set_option maxHeartbeats 8000000 in
theorem owned_any (W : World) (B gl m cl : Nat) (G : Nat → Option Nat) (N C : Nat → Nat) (h : Ls W B gl m 0 G N C) (hB : B ≤ W.heap.size) (hm : m ≤ 1000) (hN : ∀ i, i < m → N i ≤ 1000000) :
    Calls Try.prog 10 #[.slice (some ⟨gl, 0, none⟩) m cl] W fun e w' => e = .returned (.bool true) ∧ Below B W w' := by
  obtain ⟨inf, hi1, hi2, hi3, hi4⟩ := info37_ex
  have HI : Hid (Try.prog.info? 37 = some inf ∧ inf.zero = some (.agg #[.int .i64 0, .string ⟨#[]⟩, .int .i64 0, .int .i64 0]) ∧ inf.size = 4 ∧ inf.bytes = 40) := ⟨hi1, hi2, hi3, hi4⟩
  clear hi1 hi2 hi3 hi4
  obtain ⟨inf2, hi1, hi2, hi3, hi4⟩ := info25_ex
  have HI2 : Hid (Try.prog.info? 25 = some inf2 ∧ inf2.zero = some (.slice none 0 0) ∧ inf2.size = 1 ∧ inf2.bytes = 24) := ⟨hi1, hi2, hi3, hi4⟩
  clear hi1 hi2 hi3 hi4
  have HLs : Hid (Ls W B gl m 0 G N C) := h
  have HNN : Hid (∀ i, i < m → N i ≤ 1000000) := hN
  have HBB : Hid (B ≤ W.heap.size) := hB
  clear h hN hB
  go_enter Try.func10, Try.ntmps10
  go_wp2_with fail
  go_loopw [3] (fun n wr => ∃ j : Nat, n = .int .i64 j ∧ j ≤ m ∧ Hid (Ls wr B gl m 0 G N C) ∧ Hid (∀ i g, i < j → G i = some g → Mk wr g (N i) (-5 - (i : Int))) ∧ Hid (Below B W wr)) (fun n _ => m - (intOf n).toNat)
  case atStart => exact ⟨0, rfl, by omega, HLs.out, fun i g h => by omega, Below.refl _ _⟩
  case round =>
    obtain ⟨j, rfl, hj, HL, HM, HB⟩ := hrel
    by_cases hlt : j < m
    · have hj' : (j : Int) < m := by omega
      go_wp2_with fail
      go_loopw [4] (fun i wr2 => ∃ k : Nat, i = .int .i64 k ∧ k ≤ N j ∧ Hid (Ls wr2 B gl m 0 G N C) ∧ Hid (∀ i g, i < j → G i = some g → Mk wr2 g (N i) (-5 - (i : Int))) ∧ Hid (∀ g, G j = some g → Mk wr2 g k (-5 - (j : Int))) ∧ Hid (Below B W wr2)) (fun i _ => N j - (intOf i).toNat)
      case atStart => exact ⟨0, rfl, by omega, HL.out, HM.out, fun g _ i hi => by omega, HB.out⟩
      case round =>
        obtain ⟨k, rfl, hk, HL2, HM2, HP2, HB2⟩ := hrel
        have hNj := HNN.out j hlt
        have hcl := HL2.out.cell j hlt
        by_cases hkn : k < N j
        · obtain ⟨g, hg⟩ : ∃ g, G j = some g := by
            cases hg : G j with
            | none => have := (HL2.out.nil j hlt hg).1; omega
            | some g => exact ⟨g, rfl⟩
          have hrw := HL2.out.row j g (Nat.zero_le _) hlt hg
          rw [hg] at hcl
          have hcl2 : wr.cell? ⟨gl, j, none⟩ = some (.slice (some ⟨g, 0, none⟩) (N j) (C j)) := hcl
          obtain ⟨u0, hu0⟩ := hrw.cell (k * 4) (by omega)
          obtain ⟨u1, hu1⟩ := hrw.cell (k * 4 + 1) (by omega)
          obtain ⟨u2, hu2⟩ := hrw.cell (k * 4 + 2) (by omega)
          obtain ⟨u3, hu3⟩ := hrw.cell (k * 4 + 3) (by omega)
          have hf0 := hrw.frozen (k * 4)
          have hf1 := hrw.frozen (k * 4 + 1)
          have hf2 := hrw.frozen (k * 4 + 2)
          have hf3 := hrw.frozen (k * 4 + 3)
          have HL3 : Hid (Ls (st4 wr g k (-5 - (j : Int))) B gl m 0 G N C) := HL2.out.st4 j g k _ hlt hg
          have HM3 : Hid (∀ i g2, i < j → G i = some g2 → Mk (st4 wr g k (-5 - (j : Int))) g2 (N i) (-5 - (i : Int))) := fun i g2 h1 h2 q hq => by
            rw [st4_other _ _ (fun e => HL2.out.sep i j g2 (by omega) hlt (by omega) h2 (by rw [hg, e]))]; exact HM2.out i g2 h1 h2 q hq
          have HP3 : Hid (∀ g2, G j = some g2 → Mk (st4 wr g k (-5 - (j : Int))) g2 (k + 1) (-5 - (j : Int))) := fun g2 h2 q hq => by
            obtain rfl : g = g2 := by rw [hg] at h2; cases h2; rfl
            rcases Nat.lt_or_ge q k with h3 | h3
            · rw [st4_less _ h3]; exact HP2.out g hg q h3
            · obtain rfl : q = k := by omega
              exact st4_here hrw hkn
          have HB3 : Hid (Below B W (st4 wr g k (-5 - (j : Int)))) := st4_below HB2.out hrw.low
          have hkn' : (k : Int) < (N j : Int) := by omega
          clear hcl hrw hg
          generalize hNN : N j = nj at *
          generalize C j = cj at *
          go_wp2
          go_roundw
          case rel => exact ⟨k + 1, by go_num, by omega, HL3.out, HM3.out, HP3.out, HB3.out⟩
          case measure => simp [intOf]; omega
        · obtain rfl : k = N j := by omega
          have HM3 : Hid (∀ i g, i < j + 1 → G i = some g → Mk wr g (N i) (-5 - (i : Int))) := fun i g h1 h2 => by
            rcases Nat.lt_or_ge i j with h3 | h3
            · exact HM2.out i g h3 h2
            · obtain rfl : i = j := by omega
              exact HP2.out g h2
          obtain ⟨X, hX⟩ : ∃ X, (G j).map (fun g => (⟨g, 0, none⟩ : Addr)) = X := ⟨_, rfl⟩
          have hcl2 : wr.cell? ⟨gl, j, none⟩ = some (.slice X (N j) (C j)) := by rw [← hX]; exact hcl
          clear hcl hX
          go_wp2
          go_roundw
          case rel => exact ⟨j + 1, by go_num, by omega, HL2.out, HM3.out, HB2.out⟩
          case measure => simp [intOf]; omega
    · obtain rfl : j = m := by omega
      have HQ : Hid (Q2 W wr B gl j 0 G N C (.slice none 0 0) 0 [] (fun _ => none) (fun _ => 0)) := Q2.start HL.out HM.out HB.out (Nat.le_trans HBB.out HB.out.size)
      clear HL HM HB
      go_wp2_with fail
      go_loopw [5, 6] (fun a n wr => ∃ (q ca : Nat) (oa : Option Addr) (EL : List Value) (Eo : Nat → Option Nat) (En : Nat → Nat), n = .int .i64 q ∧ a = .slice oa (20 * q) ca ∧ q ≤ j ∧ Hid (Q2 W wr B gl j q G N C (.slice oa (20 * q) ca) (20 * q) EL Eo En)) (fun _ n _ => j - (intOf n).toNat)
      case atStart => exact ⟨0, 0, none, [], _, _, rfl, rfl, by omega, HQ.out⟩
      case round =>
        obtain ⟨q, ca, oa, EL, Eo, En, rfl, rfl, hq, HQ2⟩ := hrel
        clear HQ
        by_cases hqlt : q < j
        · have hq' : (q : Int) < j := by omega
          have hcl := HQ2.out.ls.cell q hqlt
          have hNj := HNN.out q hqlt
          have HP : Hid (P2 W wr B gl j q G N C (.slice oa (20 * q) ca) (20 * q) EL Eo En (G q) (N q) (C q)) := HQ2.out.begin hqlt
          obtain ⟨X, hX⟩ : ∃ X, (G q).map (fun g => (⟨g, 0, none⟩ : Addr)) = X := ⟨_, rfl⟩
          have hcl2 : wr.cell? ⟨gl, q, none⟩ = some (.slice X (N q) (C q)) := by rw [← hX]; exact hcl
          have HX : Hid ((G q).map (fun g => (⟨g, 0, none⟩ : Addr)) = X) := hX
          clear hcl hX HQ2
          go_wp2_with fail
          go_loopw [5, 7, 8] (fun a x n wr => ∃ (i ca nx cx : Nat) (oa X : Option Addr) (EL : List Value) (Eo : Nat → Option Nat) (En : Nat → Nat) (xo : Option Nat), n = .int .i64 i ∧ a = .slice oa (20 * q + i) ca ∧ x = .slice X nx cx ∧ i ≤ 20 ∧ nx ≤ 1000000 + i ∧ Hid (xo.map (fun g => (⟨g, 0, none⟩ : Addr)) = X) ∧ Hid (P2 W wr B gl j q G N C (.slice oa (20 * q + i) ca) (20 * q + i) EL Eo En xo nx cx)) (fun _ _ n _ => 20 - (intOf n).toNat)
          case atStart => exact ⟨0, ca, N q, C q, oa, X, EL, Eo, En, G q, rfl, rfl, rfl, by omega, by omega, HX.out, HP.out⟩
          case round =>
            obtain ⟨i, ca, nx, cx, oa, X, EL, Eo, En, xo, rfl, rfl, rfl, hi, hnx, HX2, HP2⟩ := hrel
            clear HP HX hcl2
            by_cases hi20 : i < 20
            · have hi' : (i : Int) < 20 := by omega
              have HB2 : Hid (B ≤ wr.heap.size) := HP2.out.hB
              go_wp2_with (at_builtin; refine Hid.out ?_)
              refine (show Hid _ from ?_)
              have HU : Hid (P2 W (wr.alloc (.cells #[.slice X nx cx] 25)) B gl j q G N C (.slice oa (20 * q + i) ca) (20 * q + i) EL Eo En xo nx cx) := HP2.out.grown (World.grownBy_alloc _ _ _)
              refine wpList_append_parted rfl _ _ 24 rfl B 25 inf2 (.slice none 0 0) 1 24 Try.underlying24 HI2.out.1 HI2.out.2.1 HI2.out.2.2.1 HI2.out.2.2.2 rfl (by decide) (.slice oa (20 * q + i) ca) (20 * q + i) EL rfl HU.out.aown ⟨wr.heap.size, 0, none⟩ 1 [.slice X nx cx] rfl rfl (World.news_of_block (cs := #[.slice X nx cx]) (t := 25) (fr := (0, 0)) (heap_alloc_new _ _)) (by simp [Value.oneCell']) (by unfold maxLen; omega) (by omega) HU.out.hB ?_
              intro g3 cap3 w4 hown hpart hlt3
              have HP4 : Hid (P2 W w4 B gl j q G N C (.slice (some ⟨g3, 0, none⟩) (20 * q + i + 1) cap3) (20 * q + i + 1) (EL ++ [sv xo nx cx]) (setAt Eo (20 * q + i) xo) (setAt En (20 * q + i) nx) xo nx cx) := HU.out.put (by omega) (by omega) (by unfold sv; rw [HX2.out]; exact hown) hpart
              clear hown hpart hlt3 HU HP2
              go_wp2_with (at_builtin; refine Hid.out ?_)
              refine (show Hid _ from ?_)
              have HV : Hid (P2 W (w4.alloc (.cells #[.int .i64 (-5 - (q : Int)), .string ⟨#[]⟩, .int .i64 0, .int .i64 0] 37)) B gl j q G N C (.slice (some ⟨g3, 0, none⟩) (20 * q + i + 1) cap3) (20 * q + i + 1) (EL ++ [sv xo nx cx]) (setAt Eo (20 * q + i) xo) (setAt En (20 * q + i) nx) xo nx cx) := HP4.out.grown (World.grownBy_alloc _ _ _)
              obtain ⟨xs, hx⟩ := HV.out.xown
              have hsv : sv xo nx cx = .slice X nx cx := by unfold sv; rw [HX2.out]
              have hblk : (Value.slice X nx cx).ownBlock = xo := by rw [← hsv, sv_block]
              refine wpList_append_parted rfl _ _ 25 rfl B 37 inf (.agg #[.int .i64 0, .string ⟨#[]⟩, .int .i64 0, .int .i64 0]) 4 40 Try.underlying25 HI.out.1 HI.out.2.1 HI.out.2.2.1 HI.out.2.2.2 rfl (by decide) (.slice X nx cx) nx xs rfl (by rw [← hsv]; exact hx) ⟨w4.heap.size, 0, none⟩ 1 (tokC ⟨-5 - (q : Int), [], 0, 0⟩) rfl rfl (World.news_of_block (cs := #[.int .i64 (-5 - (q : Int)), S [], .int .i64 0, .int .i64 0]) (t := 37) (fr := (0, 0)) (heap_alloc_new _ _)) (by simp [tokC, Value.oneCell']) (by unfold maxLen; omega) (by omega) HV.out.hB ?_
              intro g5 cap5 w6 hown hpart hlt3
              rw [hblk] at hpart
              have HP6 : Hid (P2 W w6 B gl j q G N C (.slice (some ⟨g3, 0, none⟩) (20 * q + i + 1) cap3) (20 * q + i + 1) (EL ++ [sv xo nx cx]) (setAt Eo (20 * q + i) xo) (setAt En (20 * q + i) nx) (some g5) (nx + 1) cap5) := HV.out.grow hx hown hpart
              clear hown hpart hlt3 HV HP4 hx hsv hblk HX2
              go_wp2
              go_roundw
              case rel => exact ⟨i + 1, cap3, nx + 1, cap5, some ⟨g3, 0, none⟩, some ⟨g5, 0, none⟩, EL ++ [sv xo nx cx], _, _, some g5, by go_num, rfl, rfl, by omega, by omega, rfl, HP6.out⟩
              case measure => simp [intOf]; omega
            · obtain rfl : i = 20 := by omega
              have HD : Hid (Q2 W wr B gl j (q + 1) G N C (.slice oa (20 * (q + 1)) ca) (20 * (q + 1)) EL Eo En) := HP2.out.done
              clear HP2 HX2
              go_wp2
              go_roundw
              case rel => exact ⟨q + 1, ca, oa, EL, Eo, En, by go_num, rfl, by omega, HD.out⟩
              case measure => simp [intOf]; omega
        · obtain rfl : q = j := by omega
          have HC : Hid (∀ t v, EL[t]? = some v → ∃ qa, oa = some ⟨qa, 0, none⟩ ∧ wr.cell? ⟨qa, t, none⟩ = some v) := fun t v hv => by
            rcases HQ2.out.aown.2 with ⟨_, h0⟩ | ⟨qa, cap, cur, e, _⟩
            · have hl := HQ2.out.len
              have := (List.getElem?_eq_some_iff.1 hv).1
              omega
            · injection e with e1 _ _
              have hc := HQ2.out.aown.cells (g := qa) (by rw [e1]; rfl) t v hv
              rw [Addr.add_lit, Nat.zero_add] at hc
              exact ⟨qa, e1, hc⟩
          have HEn : Hid (∀ t v, EL[t]? = some v → Ent wr v (-5 - ((t / 20 : Nat) : Int)) (Eo t) (En t)) := HQ2.out.ent
          have HEl : Hid (EL.length = 20 * q) := HQ2.out.len
          have HBz : Hid (Below B W wr) := HQ2.out.below
          obtain ⟨T, hT⟩ : ∃ T, 20 * q = T := ⟨_, rfl⟩
          have hTb : T ≤ 20000 := by omega
          rw [hT] at HEl ⊢
          clear HQ2 hT
          go_wp2_with fail
          go_loop [9] (fun n => ∃ t : Nat, n = .int .i64 t ∧ t ≤ T) (fun n => T - (intOf n).toNat)
          case atStart => exact ⟨0, rfl, by omega⟩
          case round =>
            obtain ⟨t, rfl, ht⟩ := hrel
            by_cases htT : t < T
            · have ht' : (t : Int) < T := by omega
              obtain ⟨v, hv⟩ : ∃ v, EL[t]? = some v := ⟨_, List.getElem?_eq_getElem (by rw [HEl.out]; exact htT)⟩
              obtain ⟨qa, hqa, hcv⟩ := HC.out t v hv
              obtain ⟨⟨c, hvv⟩, hnil, hle, hmk⟩ := HEn.out t v hv
              subst hqa
              obtain ⟨n, hn⟩ : ∃ n, En t = n := ⟨_, rfl⟩
              obtain ⟨X, hX⟩ : ∃ X, (Eo t).map (fun g => (⟨g, 0, none⟩ : Addr)) = X := ⟨_, rfl⟩
              have hcv2 : wr.cell? ⟨qa, t, none⟩ = some (.slice X n c) := by rw [hcv, hvv, ← hX, ← hn]
              have HXX : Hid ((Eo t).map (fun g => (⟨g, 0, none⟩ : Addr)) = X) := hX
              have HNI : Hid (Eo t = none → n = 0) := by rw [← hn]; exact hnil
              have HMK : Hid (∀ g, Eo t = some g → Mk wr g n (-5 - ((t / 20 : Nat) : Int))) := fun g e => by rw [← hn]; exact (hmk g e).2
              have hnb : (n : Int) ≤ 2000000 := by rw [hn] at hle; omega
              clear hv hcv hvv hnil hmk hn hX hle
              go_wp2_with fail
              go_loop [10] (fun i => ∃ k : Nat, i = .int .i64 k ∧ k ≤ n) (fun i => n - (intOf i).toNat)
              case atStart => exact ⟨0, rfl, by omega⟩
              case round =>
                obtain ⟨k, rfl, hk⟩ := hrel
                by_cases hkn : k < n
                · obtain ⟨g, hg⟩ : ∃ g, Eo t = some g := by
                    cases hg : Eo t with
                    | none => have := HNI.out hg; omega
                    | some g => exact ⟨g, rfl⟩
                  have hX3 : X = some ⟨g, 0, none⟩ := by rw [← HXX.out, hg]; rfl
                  subst hX3
                  have hck : wr.cell? ⟨g, k * 4, none⟩ = some (.int .i64 (-5 - (t : Int) / 20)) := by
                    rw [HMK.out g hg k hkn]
                    congr 2
                  have hkn' : (k : Int) < n := by omega
                  clear hg
                  go_wp2
                  go_round
                  case rel => exact ⟨k + 1, by go_num, by omega⟩
                  case measure => simp [intOf]; omega
                · obtain rfl : k = n := by omega
                  go_wp2
                  go_round
                  case rel => exact ⟨t + 1, by go_num, by omega⟩
                  case measure => simp [intOf]; omega
            · obtain rfl : t = T := by omega
              go_wp2
              go_ret
              exact ⟨rfl, HBz.out⟩

end Go.Proofs.Ythnnmgiihpdblab
