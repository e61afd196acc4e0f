/- AirPlays: lists that are marked: what holds of them. AirPlays: lists marked, element by element. AirPlays: lists grown, step by step. AirPlays: what was grown, and whose it is. -/
import Derived.Test.YtlnaejhdnbmmjaaPgG
namespace Go.Proofs.Ytlnaejhdnbmmjaa
open Go.RowKit
def mkP (k : Nat) : Pk := ⟨-1 - (k : Int), 0, ⟨#[]⟩⟩
def mks (k n : Nat) : List Pk := List.replicate n (mkP k)
theorem mks_len (k n : Nat) : (mks k n).length = n := by unfold mks; simp
theorem mks_succ (k n : Nat) : mks k (n + 1) = mks k n ++ [mkP k] := by unfold mks; rw [List.replicate_succ', ]
theorem mks_at (k n i : Nat) (h : i < n) : (mks k n)[i]? = some (mkP k) := by unfold mks; simp [h]
theorem PkAt.mks_le {w : World} {g k n m : Nat} (h : PkAt w g 0 (mks k n)) (hm : m ≤ n) : PkAt w g 0 (mks k m) := by
  have key : ∀ {i : Nat} {t : Pk}, (mks k m)[i]? = some t → (mks k n)[i]? = some t := fun {i t} hi => by
    have hlt : i < m := by have := (List.getElem?_eq_some_iff.1 hi).1; rwa [mks_len] at this
    rw [mks_at k m i hlt] at hi
    rw [mks_at k n i (by omega)]; exact hi
  exact ⟨fun i t hi => h.c0 i t (key hi), fun i t hi => h.c1 i t (key hi), fun i t hi => h.c2 i t (key hi)⟩
set_option maxHeartbeats 1000000 in
theorem reads_any (k n : Nat) (v : Value) (w : World) (hv : PkRow w v (mks k n)) (hn : (n : Int) ≤ 1000000000000) (hk : (k : Int) ≤ 1000000000000) :
    Calls Try.prog 28 #[v, .int .i64 k] w fun e w' => e = .returned (.bool true) ∧ w' = w := by
  obtain ⟨oa, cap, g, off, rfl, hoa, hA⟩ := hv
  rw [mks_len] at hoa ⊢
  have hq := fun w => neq37 w (mkP k) (mkP k)
  rw [decide_eq_true rfl] at hq
  rw [show pkA (mkP k) = .agg #[.int .i64 (-1 - (k : Int)), .int .i64 0, .string ⟨#[]⟩] from rfl] at hq
  have hg := fun w op x y xs ys => guard37n w op x y xs ys
  have HA := hid hA
  clear hA
  go_enter Try.func28, Try.ntmps28
  go_wp2_with fail
  go_loopw [5] (fun i wr => ∃ j : Nat, i = .int .i64 j ∧ j ≤ n ∧ wr = w) (fun i _ => n - (intOf i).toNat)
  case atStart => exact ⟨0, rfl, by omega, rfl⟩
  case round =>
    obtain ⟨j, rfl, hj, rfl⟩ := hrel
    by_cases hlt : j < n
    · have hj' : (j : Int) < (n : Int) := by omega
      have hoa' := hoa (by omega)
      subst hoa'
      have a0 := HA.out.c0 j _ (mks_at k n j hlt)
      have a1 := HA.out.c1 j _ (mks_at k n j hlt)
      have a2 := HA.out.c2 j _ (mks_at k n j hlt)
      rw [show (mkP k).fr = -1 - (k : Int) from rfl] at a0
      rw [show (mkP k).to = 0 from rfl] at a1
      rw [show (mkP k).da = ⟨#[]⟩ from rfl] at a2
      clear hoa HA
      go_wp2
      go_roundw
      case rel => exact ⟨j + 1, by go_num, by omega, trivial⟩
      case measure => simp [intOf]; omega
    · obtain rfl : j = n := by omega
      go_wp2
      go_ret
      exact ⟨rfl, rfl⟩
end Go.Proofs.Ytlnaejhdnbmmjaa
namespace Go.Proofs.Ytlnaejhdnbmmjaa
open Go.RowKit
theorem own_setCell {w : World} {B g n c : Nat} {xs : List Value} (h : w.ownsRow B 37 3 (.slice (some ⟨g, 0, none⟩) n c) n xs) (o : Nat) (u : Value) : ∃ xs', (w.setCell ⟨g, o, none⟩ u).ownsRow B 37 3 (.slice (some ⟨g, 0, none⟩) n c) n xs' := by
  rcases h.2 with ⟨h1, _⟩ | ⟨g2, c2, cur, h1, h2, h3, h4, h5, h6, h7⟩
  · cases h1
  · injection h1 with e1 _ e2
    injection e1 with e1
    injection e1 with e1
    subst e1 e2
    have hh : (w.setCell ⟨g, o, none⟩ u).heap[g]? = some (.cells (cur.setIfInBounds o u) 37 (0, 0)) := by
      unfold World.setCell
      simp [Array.getElem?_modify, h3]
    refine ⟨(cur.setIfInBounds o u).toList.take (n * 3), ?_, .inr ⟨g, c, _, rfl, h2, hh, h4, h5, by simpa using h6, rfl⟩⟩
    simp; omega
theorem own_cell {w : World} {B g n c : Nat} {xs : List Value} (h : w.ownsRow B 37 3 (.slice (some ⟨g, 0, none⟩) n c) n xs) (o : Nat) (ho : o < n * 3) : (∃ u, w.cell? ⟨g, o, none⟩ = some u) ∧ w.frozen? ⟨g, o, none⟩ = false := by
  rcases h.2 with ⟨h1, _⟩ | ⟨g2, c2, cur, h1, h2, h3, h4, h5, h6, h7⟩
  · cases h1
  · injection h1 with e1 _ e2
    injection e1 with e1
    injection e1 with e1
    subst e1 e2
    constructor
    · refine ⟨cur[o]'(by omega), ?_⟩
      unfold World.cell?
      rw [h3]
      simp [show o < cur.size by omega]
    · unfold World.frozen?
      rw [h3]
      simp
/-- a list of one's own of which the first k are marked -/
def MR (K : Nat → Nat) (w : World) (B j : Nat) (v : Value) (N k : Nat) : Prop :=
  N ≤ 1000 ∧ k ≤ N ∧ ∃ oa c, v = .slice oa N c ∧ ((N = 0 ∧ c = 0) ∨ ∃ g xs, oa = some ⟨g, 0, none⟩ ∧ K g = 10 + j ∧ w.ownsRow B 37 3 v N xs ∧ PkAt w g 0 (mks j k))
theorem MR.mv {T : Nat → Prop} {K K' : Nat → Nat} {w w' : World} {B j : Nat} {v : Value} {N k : Nat} (h : MR K w B j v N k) (m : Mv T w w' K K') (ht : ¬ T (10 + j)) : MR K' w' B j v N k := by
  obtain ⟨h0, hk, oa, c, h1, h2⟩ := h
  refine ⟨h0, hk, oa, c, h1, h2.imp id ?_⟩
  rintro ⟨g, xs, h3, h4, h5, h6⟩
  subst h3
  have hl := (h5.lt g (by rw [h1]; rfl)).2
  have hb := m.kept g hl (by rw [h4]; exact ht)
  refine ⟨g, xs, rfl, (m.old g hl).trans h4, own_block h5 (fun r hr => ?_), h6.of_block hb⟩
  rw [h1] at hr
  cases hr
  exact hb
theorem FreeE.mr {K : Nat → Nat} {w : World} {B j : Nat} {v : Value} {l : List Pk} (h : FreeE K w B j v l) : MR K w B j v l.length 0 := by
  obtain ⟨h0, oa, c, h1, h2⟩ := h
  refine ⟨h0, Nat.zero_le _, oa, c, h1, ?_⟩
  rcases h2 with ⟨rfl, rfl⟩ | ⟨g, h3, h4, h5⟩
  · exact .inl ⟨rfl, rfl⟩
  · exact .inr ⟨g, _, h3, h4, h5, ⟨fun i t h => by simp [mks] at h, fun i t h => by simp [mks] at h, fun i t h => by simp [mks] at h⟩⟩
/-- the book while its lists are marked and grown -/
structure LB (K0 : Nat → Nat) (w0 : World) (K : Nat → Nat) (w : World) (B bb n : Nat) (gla : Option Addr) (gl cl : Nat) (LV : Nat → Value) (NV : Nat → Nat) (vg vh : Value) : Prop where
  blk : w.heap[bb]? = some (.cells #[.slice none 0 0, .slice none 0 0, .slice gla n cl, vg, vh] 35 (0, 0))
  kb : K bb = 1
  gla : 0 < n → gla = some ⟨gl, 0, none⟩ ∧ K gl = 8 ∧ gl < w.heap.size
  cell : ∀ j, j < n → w.cell? ⟨gl, j, none⟩ = some (LV j)
  mv : Mv (fun t => t ≠ 0) w0 w K0 K
  hB : B ≤ w.heap.size
section
variable {K0 K K' : Nat → Nat} {w0 w w' : World} {B bb n : Nat} {gla : Option Addr} {gl cl : Nat} {LV : Nat → Value} {NV : Nat → Nat} {vg vh : Value}
theorem LB.lt (h : LB K0 w0 K w B bb n gla gl cl LV NV vg vh) : bb < w.heap.size := (Array.getElem?_eq_some_iff.1 h.blk).1
theorem LB.c (h : LB K0 w0 K w B bb n gla gl cl LV NV vg vh) : w.cell? ⟨bb, 2, none⟩ = some (.slice gla n cl) ∧ w.cell? ⟨bb, 3, none⟩ = some vg ∧ w.cell? ⟨bb, 4, none⟩ = some vh := by
  unfold World.cell?; rw [h.blk]; exact ⟨rfl, rfl, rfl⟩
theorem LB.fz (h : LB K0 w0 K w B bb n gla gl cl LV NV vg vh) (i : Nat) : w.frozen? ⟨bb, i, none⟩ = false := by unfold World.frozen?; rw [h.blk]; simp
theorem LB.to {T : Nat → Prop} (h : LB K0 w0 K w B bb n gla gl cl LV NV vg vh) (m : Mv T w w' K K') (t0 : ¬ T 0) (t1 : ¬ T 1) (t8 : ¬ T 8) : LB K0 w0 K' w' B bb n gla gl cl LV NV vg vh := by
  refine ⟨(m.kept bb h.lt (by rw [h.kb]; exact t1)).trans h.blk, (m.old bb h.lt).trans h.kb, fun h0 => ?_, fun j hj => ?_, h.mv.trans (m.mono (fun t ht e => t0 (by rw [← e]; exact ht))), Nat.le_trans h.hB m.size⟩
  · obtain ⟨e1, e2, e3⟩ := h.gla h0
    exact ⟨e1, (m.old gl e3).trans e2, Nat.lt_of_lt_of_le e3 m.size⟩
  · obtain ⟨e1, e2, e3⟩ := h.gla (by omega)
    rw [World.cell?_of_block (a := ⟨gl, j, none⟩) (m.kept gl e3 (by rw [e2]; exact t8))]
    exact h.cell j hj
end
/-- one element marked -/
theorem MR.mark {K : Nat → Nat} {w : World} {B j : Nat} {v : Value} {N k : Nat} (h : MR K w B j v N k) (hk : k < N) :
    ∃ g c, v = .slice (some ⟨g, 0, none⟩) N c ∧ K g = 10 + j ∧ g < w.heap.size ∧ (∀ o, o < 3 → (∃ u, w.cell? ⟨g, k * 3 + o, none⟩ = some u) ∧ w.frozen? ⟨g, k * 3 + o, none⟩ = false) ∧
      Mv (fun t => t = 10 + j) w (((w.setCell ⟨g, k * 3, none⟩ (.int .i64 (-1 - (j : Int)))).setCell ⟨g, k * 3 + 1, none⟩ (.int .i64 0)).setCell ⟨g, k * 3 + 2, none⟩ (.string ⟨#[]⟩)) K K ∧
      MR K (((w.setCell ⟨g, k * 3, none⟩ (.int .i64 (-1 - (j : Int)))).setCell ⟨g, k * 3 + 1, none⟩ (.int .i64 0)).setCell ⟨g, k * 3 + 2, none⟩ (.string ⟨#[]⟩)) B j v N (k + 1) := by
  obtain ⟨h0, hkN, oa, c, h1, h2⟩ := h
  rcases h2 with ⟨h3, _⟩ | ⟨g, xs, rfl, h4, h5, h6⟩
  · omega
  · subst h1
    have hl := (h5.lt g rfl).2
    obtain ⟨x1, e1⟩ := own_setCell h5 (k * 3) (.int .i64 (-1 - (j : Int)))
    obtain ⟨x2, e2⟩ := own_setCell e1 (k * 3 + 1) (.int .i64 0)
    obtain ⟨x3, e3⟩ := own_setCell e2 (k * 3 + 2) (.string ⟨#[]⟩)
    refine ⟨g, c, rfl, h4, hl, fun o ho => own_cell h5 _ (by omega), ⟨rfl, rfl, rfl, by simp, fun _ _ => rfl, fun b hb ht => ?_⟩, h0, by omega, _, c, rfl, .inr ⟨g, x3, rfl, h4, e3, ?_⟩⟩
    · have hbg : b ≠ g := fun e => ht (by rw [e]; exact h4)
      rw [Below.heap_setCell _ _ _ b hbg, Below.heap_setCell _ _ _ b hbg, Below.heap_setCell _ _ _ b hbg]
    · obtain ⟨⟨u0, c0⟩, _⟩ := own_cell h5 (k * 3) (by omega)
      obtain ⟨⟨u1, c1⟩, _⟩ := own_cell e1 (k * 3 + 1) (by omega)
      obtain ⟨⟨u2, c2⟩, _⟩ := own_cell e2 (k * 3 + 2) (by omega)
      have far : ∀ o, o < k * 3 → (((w.setCell ⟨g, k * 3, none⟩ (.int .i64 (-1 - (j : Int)))).setCell ⟨g, k * 3 + 1, none⟩ (.int .i64 0)).setCell ⟨g, k * 3 + 2, none⟩ (.string ⟨#[]⟩)).cell? ⟨g, o, none⟩ = w.cell? ⟨g, o, none⟩ := fun o ho => by
        rw [World.cell?_setCell_other _ _ _ _ (by intro e; injection e; omega), World.cell?_setCell_other _ _ _ _ (by intro e; injection e; omega), World.cell?_setCell_other _ _ _ _ (by intro e; injection e; omega)]
      have key : ∀ {i : Nat} {t : Pk}, (mks j (k + 1))[i]? = some t → t = mkP j ∧ i ≤ k := fun {i t} hi => by
        have hlt : i < k + 1 := by have := (List.getElem?_eq_some_iff.1 hi).1; rwa [mks_len] at this
        rw [mks_at j (k + 1) i hlt] at hi
        exact ⟨(Option.some.inj hi).symm, by omega⟩
      refine ⟨fun i t hi => ?_, fun i t hi => ?_, fun i t hi => ?_⟩ <;> (obtain ⟨rfl, hik⟩ := key hi; rcases Nat.eq_or_lt_of_le hik with rfl | hlt)
      · rw [Nat.zero_add, World.cell?_setCell_other _ _ _ _ (by simp), World.cell?_setCell_other _ _ _ _ (by simp)]
        exact World.cell?_setCell_same _ _ _ c0
      · rw [far _ (by omega)]; exact h6.c0 i _ (mks_at j k i hlt)
      · rw [Nat.zero_add, World.cell?_setCell_other _ _ _ _ (by simp)]
        exact World.cell?_setCell_same _ _ _ c1
      · rw [far _ (by omega)]; exact h6.c1 i _ (mks_at j k i hlt)
      · rw [Nat.zero_add]
        exact World.cell?_setCell_same _ _ _ c2
      · rw [far _ (by omega)]; exact h6.c2 i _ (mks_at j k i hlt)
end Go.Proofs.Ytlnaejhdnbmmjaa
namespace Go.Proofs.Ytlnaejhdnbmmjaa
open Go.RowKit
theorem own_content {w : World} {B g n c : Nat} {xs : List Value} {l : List Pk} (h : w.ownsRow B 37 3 (.slice (some ⟨g, 0, none⟩) n c) n xs) (ha : PkAt w g 0 l) (hl : l.length = n) : w.ownsRow B 37 3 (.slice (some ⟨g, 0, none⟩) n c) n (pks l) := by
  have e : xs = pks l := by
    apply List.ext_getElem?
    intro j
    have hx := h.1
    rcases Nat.lt_or_ge j (n * 3) with hj | hj
    · have h1 := List.getElem?_eq_getElem (l := xs) (i := j) (by omega)
      have h2 := List.getElem?_eq_getElem (l := pks l) (i := j) (by rw [pks_len]; omega)
      have e1 := h.cells (g := g) rfl j _ h1
      have e2 := ha.cells j _ h2
      rw [Addr.add_lit] at e1
      rw [h1, h2, ← e1, ← e2]
    · rw [List.getElem?_eq_none (by omega), List.getElem?_eq_none (by rw [pks_len]; omega)]
  rw [← e]; exact h
/-- onto what has no room, whatever its address -/
theorem app_grow0 (w : World) (ty : TypeId) (oa : Option Addr) (b : List Pk) (g2 off c : Nat) (hb : PkAt w g2 off b) (h0 : 0 < b.length) (hm : b.length ≤ 1000000000) :
    ∃ cap w', (Builtin.append_ #[43, 43] ty #[.slice oa 0 0, .slice (some ⟨g2, off, none⟩) b.length c]).run Try.prog w = .ok (.slice (some ⟨w.heap.size, 0, none⟩) b.length cap) w' ∧
      w'.ownsRow w.heap.size 37 3 (.slice (some ⟨w.heap.size, 0, none⟩) b.length cap) b.length (pks b) ∧ w.grownBy w' none ∧ w'.heap.size = w.heap.size + 1 := by
  cases oa with
  | none =>
    obtain ⟨cap, w', h1, h2, h3, h4⟩ := app_grow w ty none 0 [] b 0 g2 off c rfl (.inr ⟨rfl, rfl⟩) ⟨fun i t h => by simp at h, fun i t h => by simp at h, fun i t h => by simp at h⟩ hb h0 (by omega)
    simp only [Nat.zero_add, List.nil_append] at h1 h2
    exact ⟨cap, w', h1, h2, h3, h4⟩
  | some a =>
    obtain ⟨i, hi, hz, hs, hby⟩ := info37_ex
    have hge := grownCap_ge w b.length 0 37
    have hcm : grownCap w b.length 0 37 ≤ maxLen := grownCap_le_maxLen w _ _ _ (by unfold maxLen; omega)
    have key := run_append_grow (P := Try.prog) w 43 ty 37 i _ Try.underlying43 hi hz a 0 0 [] (by simp) (fun j v hv => by simp at hv) ⟨g2, off, none⟩ b.length c (pks b) (by rw [pks_len, hs]) (fun j v hv => by rw [Addr.add_lit]; exact hb.cells j v hv) (by omega) (by omega) (by rw [hby]; exact growslice_fits (by omega) (by omega))
    simp only [Nat.zero_add] at key
    refine ⟨_, _, key, ⟨pks_len b, .inr ⟨w.heap.size, _, _, rfl, Nat.le_refl _, heap_alloc_new w.drew _, hge, hcm, ?_, ?_⟩⟩, ⟨rfl, rfl, rfl, by simp, fun k hk _ => Below.heap_alloc w.drew _ k hk⟩, by simp⟩
    · simp only [Array.size_append, List.size_toArray, size_zeroCells, pks_len]
      simp [Value.cells]; omega
    · simp [← pks_len b]
theorem append_parted {w : World} (base : Nat) (v : Value) (n : Nat) (xs : List Value) (hown : w.ownsRow base 37 3 v n xs) (b : Nat) (x : Pk) (hb : PkAt w b 0 [x]) (hn : n ≤ 100000000) (hbase : base ≤ w.heap.size) :
    ∃ g cap w', (∀ ty, (Builtin.append_ #[43, 43] ty #[v, .slice (some ⟨b, 0, none⟩) 1 1]).run Try.prog w = .ok (.slice (some ⟨g, 0, none⟩) (n + 1) cap) w') ∧ w'.ownsRow base 37 3 (.slice (some ⟨g, 0, none⟩) (n + 1) cap) (n + 1) (xs ++ pks [x]) ∧
      ((v.ownBlock = some g ∧ w.grownBy w' (some g)) ∨ (g = w.heap.size ∧ w.grownBy w' none)) := by
  obtain ⟨i, hi, hz, hs, hby⟩ := info37_ex
  have hnews : ∀ j u, (pks [x])[j]? = some u → w.cell? ((⟨b, 0, none⟩ : Addr).add j) = some u := fun j u hu => by rw [Addr.add_lit]; exact hb.cells j u hu
  obtain ⟨g, cap, w', hr, h2, h3, h4, h5⟩ := run_append_lies (P := Try.prog) w 43 0 base 37 i _ 3 32 Try.underlying43 hi hz hs hby rfl (by decide) v n xs hown ⟨b, 0, none⟩ 1 1 (pks [x]) rfl hnews (pks_one' _) (by omega) (by unfold maxLen; omega) (by omega) hbase w.heap.size rfl
  refine ⟨g, cap, w', fun ty => hr, h2, ?_⟩
  rcases hown.2 with ⟨rfl, rfl⟩ | ⟨g0, cap0, cur, rfl, hb0, hg0, hnc, hcm, hcs, htake⟩
  · rcases h4 with e | e
    · simp [Value.ownBlock] at e
    · exact .inr ⟨e, h3⟩
  · by_cases hroom : n + 1 ≤ cap0
    · have hfit : n * i.size + (pks [x]).length ≤ cur.size := by rw [pks_len, hs]; simp; omega
      have hr2 := run_append_room (P := Try.prog) w 43 0 37 i Try.underlying43 hi g0 n cap0 cur hg0 ⟨b, 0, none⟩ 1 1 (pks [x]) (by rw [pks_len, hs]; rfl) hnews (pks_one' _) hroom hfit
      rw [hr2] at hr
      cases hr
      exact .inl ⟨rfl, h3⟩
    · have holds : ∀ j u, xs[j]? = some u → w.cell? ((⟨g0, 0, none⟩ : Addr).add j) = some u := hown.cells (g := g0) rfl
      have hr2 := run_append_grow (P := Try.prog) w 43 0 37 i _ Try.underlying43 hi hz ⟨g0, 0, none⟩ n cap0 xs (by rw [hs]; exact hown.1) holds ⟨b, 0, none⟩ 1 1 (pks [x]) (by rw [pks_len, hs]; rfl) hnews (by omega) (by omega) (by rw [hby]; exact growslice_fits (by omega) (by omega))
      rw [hr2] at hr
      cases hr
      exact .inr ⟨rfl, ⟨rfl, rfl, rfl, by simp, fun k hk _ => Below.heap_alloc w.drew _ k hk⟩⟩
/-- a list that reads as marks of j -/
def ME (K : Nat → Nat) (w : World) (v : Value) (j m : Nat) : Prop :=
  m ≤ 2000 ∧ ∃ oa c, v = .slice oa m c ∧ (0 < m → ∃ g, oa = some ⟨g, 0, none⟩ ∧ K g = 10 + j ∧ g < w.heap.size ∧ PkAt w g 0 (mks j m))
def Rel (v x : Value) (m nx : Nat) : Prop := ∀ g, v.ownBlock = some g → x.ownBlock = some g → m ≤ nx
/-- the list that is grown -/
def XO (K : Nat → Nat) (w : World) (B j : Nat) (x : Value) (nx : Nat) : Prop :=
  (nx = 0 ∧ ∃ oa, x = .slice oa 0 0) ∨ ∃ g c, x = .slice (some ⟨g, 0, none⟩) nx c ∧ K g = 10 + j ∧ w.ownsRow B 37 3 x nx (pks (mks j nx))
theorem ME.mv {T : Nat → Prop} {K K' : Nat → Nat} {w w' : World} {v : Value} {j m : Nat} (h : ME K w v j m) (mv : Mv T w w' K K') (ht : ¬ T (10 + j)) : ME K' w' v j m := by
  obtain ⟨h0, oa, c, h1, h2⟩ := h
  refine ⟨h0, oa, c, h1, fun hm => ?_⟩
  obtain ⟨g, e1, e2, e3, e4⟩ := h2 hm
  exact ⟨g, e1, (mv.old g e3).trans e2, Nat.lt_of_lt_of_le e3 mv.size, e4.of_block (mv.kept g e3 (by rw [e2]; exact ht))⟩
theorem XO.mv {T : Nat → Prop} {K K' : Nat → Nat} {w w' : World} {B j : Nat} {x : Value} {nx : Nat} (h : XO K w B j x nx) (mv : Mv T w w' K K') (ht : ¬ T (10 + j)) : XO K' w' B j x nx := by
  rcases h with h | ⟨g, c, rfl, h2, h3⟩
  · exact .inl h
  · have hl := (h3.lt g rfl).2
    exact .inr ⟨g, c, rfl, (mv.old g hl).trans h2, own_block h3 (fun r hr => by cases hr; exact mv.kept g hl (by rw [h2]; exact ht))⟩
theorem MR.xo {K : Nat → Nat} {w : World} {B j : Nat} {v : Value} {N : Nat} (h : MR K w B j v N N) : XO K w B j v N := by
  obtain ⟨_, _, oa, c, h1, h2⟩ := h
  rcases h2 with ⟨h3, h4⟩ | ⟨g, xs, rfl, h4, h5, h6⟩
  · exact .inl ⟨h3, oa, by rw [h1, h3, h4]⟩
  · subst h1
    exact .inr ⟨g, c, rfl, h4, own_content h5 h6 (mks_len _ _)⟩
theorem MR.me {K : Nat → Nat} {w : World} {B j : Nat} {v : Value} {N : Nat} (h : MR K w B j v N N) : ME K w v j N := by
  obtain ⟨h0, _, oa, c, h1, h2⟩ := h
  refine ⟨by omega, oa, c, h1, fun hm => ?_⟩
  rcases h2 with ⟨h3, h4⟩ | ⟨g, xs, rfl, h4, h5, h6⟩
  · omega
  · subst h1
    exact ⟨g, rfl, h4, (h5.lt g rfl).2, h6⟩
theorem XO.me {K : Nat → Nat} {w : World} {B j : Nat} {x : Value} {nx : Nat} (h : XO K w B j x nx) (hn : nx ≤ 2000) : ME K w x j nx := by
  rcases h with ⟨rfl, oa, rfl⟩ | ⟨g, c, rfl, h2, h3⟩
  · exact ⟨hn, oa, 0, rfl, fun h => by omega⟩
  · exact ⟨hn, _, c, rfl, fun _ => ⟨g, rfl, h2, (h3.lt g rfl).2, .of_own h3⟩⟩
/-- x grown by one mark, which lies in the block b -/
theorem XO.grow {K : Nat → Nat} {w : World} {B j b : Nat} {x : Value} {nx : Nat} (h : XO K w B j x nx) (hb : PkAt w b 0 [mkP j]) (hn : nx ≤ 2000) (hB : B ≤ w.heap.size) :
    ∃ g cap w' K', (∀ ty, (Builtin.append_ #[43, 43] ty #[x, .slice (some ⟨b, 0, none⟩) 1 1]).run Try.prog w = .ok (.slice (some ⟨g, 0, none⟩) (nx + 1) cap) w') ∧ XO K' w' B j (.slice (some ⟨g, 0, none⟩) (nx + 1) cap) (nx + 1) ∧ Mv (fun t => t = 10 + j) w w' K K' ∧
      (∀ v m, ME K w v j m → Rel v x m nx → ME K' w' v j m ∧ Rel v (.slice (some ⟨g, 0, none⟩) (nx + 1) cap) m (nx + 1)) := by
  have hK : ∀ {w' : World}, w.heap.size ≤ w'.heap.size → w.os = w'.os ∧ w.tape = w'.tape ∧ w.output = w'.output → (∀ k, k < w.heap.size → K k ≠ 10 + j → w'.heap[k]? = w.heap[k]?) → Mv (fun t => t = 10 + j) w w' K (ext w K (fun _ => 10 + j)) := fun hs ⟨h1, h2, h3⟩ h4 => ⟨h1.symm, h2.symm, h3.symm, hs, fun _ hb => ext_old hb, fun k hk ht => h4 k hk ht⟩
  have fresh : ∀ {cap : Nat} {w' : World}, w.grownBy w' none → w'.ownsRow B 37 3 (.slice (some ⟨w.heap.size, 0, none⟩) (nx + 1) cap) (nx + 1) (pks (mks j (nx + 1))) →
      XO (ext w K (fun _ => 10 + j)) w' B j (.slice (some ⟨w.heap.size, 0, none⟩) (nx + 1) cap) (nx + 1) ∧ Mv (fun t => t = 10 + j) w w' K (ext w K (fun _ => 10 + j)) ∧
      (∀ v m, ME K w v j m → Rel v x m nx → ME (ext w K (fun _ => 10 + j)) w' v j m ∧ Rel v (.slice (some ⟨w.heap.size, 0, none⟩) (nx + 1) cap) m (nx + 1)) := fun {cap w'} hg ho => by
    refine ⟨.inr ⟨_, cap, rfl, ext_new (Nat.le_refl _), ho⟩, hK hg.size ⟨hg.os.symm, hg.tape.symm, hg.output.symm⟩ (fun k hk _ => hg.block k hk (by simp)), fun v m hv _ => ?_⟩
    obtain ⟨h0, oa, c, h1, h2⟩ := hv
    refine ⟨⟨h0, oa, c, h1, fun hm => ?_⟩, fun g e1 e2 => ?_⟩
    · obtain ⟨g, e1, e2, e3, e4⟩ := h2 hm
      exact ⟨g, e1, (ext_old e3).trans e2, Nat.lt_of_lt_of_le e3 hg.size, e4.of_block (hg.block g e3 (by simp))⟩
    · cases e2
      rcases Nat.eq_zero_or_pos m with hm | hm
      · omega
      · obtain ⟨g, e3, e4, e5, e6⟩ := h2 hm
        rw [h1, e3] at e1
        simp [Value.ownBlock] at e1
        omega
  have hm1 : pks (mks j nx) ++ pks [mkP j] = pks (mks j (nx + 1)) := by rw [mks_succ, pks_app]
  rcases h with ⟨rfl, oa, rfl⟩ | ⟨g0, c0, rfl, h2, h3⟩
  · obtain ⟨cap, w', hr, ho, hg, hz⟩ := app_grow0 w 0 oa [mkP j] b 0 1 hb (by simp) (by simp)
    have := fresh hg (own_base (by have := ho; exact this) hB)
    exact ⟨_, cap, w', _, fun ty => hr, this.1, this.2.1, this.2.2⟩
  · obtain ⟨g, cap, w', hr, ho, hp⟩ := append_parted B _ nx _ h3 b (mkP j) hb (by omega) hB
    rw [hm1] at ho
    rcases hp with ⟨e, hg⟩ | ⟨e, hg⟩
    · cases e
      have hl := (h3.lt g0 rfl).2
      have hl' := Nat.lt_of_lt_of_le hl hg.size
      refine ⟨g0, cap, w', ext w K (fun _ => 10 + j), hr, .inr ⟨g0, cap, rfl, (ext_old hl).trans h2, ho⟩, hK hg.size ⟨hg.os.symm, hg.tape.symm, hg.output.symm⟩ (fun k hk ht => hg.block k hk (fun e => ht (by cases e; exact h2))), fun v m hv hrl => ?_⟩
      obtain ⟨h0, oa, c, h1, h4⟩ := hv
      refine ⟨⟨h0, oa, c, h1, fun hm => ?_⟩, fun g e1 e2 => ?_⟩
      · obtain ⟨g, e1, e2, e3, e4⟩ := h4 hm
        refine ⟨g, e1, (ext_old e3).trans e2, Nat.lt_of_lt_of_le e3 hg.size, ?_⟩
        by_cases hgg : g = g0
        · subst hgg
          have hmn : m ≤ nx := hrl g (by rw [h1, e1]; rfl) rfl
          exact (PkAt.of_own ho).mks_le (by omega)
        · exact e4.of_block (hg.block g e3 (by simpa using hgg))
      · cases e2
        have := hrl g0 e1 rfl
        omega
    · subst e
      have := fresh hg ho
      exact ⟨_, cap, w', _, hr, this.1, this.2.1, this.2.2⟩
end Go.Proofs.Ytlnaejhdnbmmjaa
namespace Go.Proofs.Ytlnaejhdnbmmjaa
open Go.RowKit
theorem info3_ex : ∃ i : TypeInfo, Try.prog.info? 3 = some i ∧ i.zero = some (.int .i64 0) ∧ i.size = 1 ∧ i.bytes = 8 :=
  ⟨(Try.prog.info? 3).getD default, by kernel_rfl, by kernel_rfl, by kernel_rfl, by kernel_rfl⟩
/-- a row whose block bears the tag t, grown by one: lists -/
theorem app43one {K : Nat → Nat} {w : World} {B n t b : Nat} {v y : Value} {XL : List Value} (h : w.ownsRow B 43 1 v n XL) (hB : B ≤ w.heap.size) (hk : ∀ g, v.ownBlock = some g → K g = t) (hb : w.heap[b]? = some (.cells #[y] 43 (0, 0))) (h0 : y.oneCell' = true) (hn : n ≤ 1000000000000) :
    ∃ g cap w', (∀ ty, (Builtin.append_ #[32, 32] ty #[v, .slice (some ⟨b, 0, none⟩) 1 1]).run Try.prog w = .ok (.slice (some ⟨g, 0, none⟩) (n + 1) cap) w') ∧ w'.ownsRow B 43 1 (.slice (some ⟨g, 0, none⟩) (n + 1) cap) (n + 1) (XL ++ [y]) ∧ Mv (fun x => x = t) w w' K (ext w K (fun _ => t)) ∧ ext w K (fun _ => t) g = t := by
  obtain ⟨i, hi, hz, hs, hby⟩ := info43_ex
  obtain ⟨g, cap, w', hr, ho, hg, hat, hlt⟩ := run_append_lies (P := Try.prog) w 32 0 B 43 i _ 1 24 Try.underlying32 hi hz hs hby rfl (by decide) v n XL h ⟨b, 0, none⟩ 1 1 [y] rfl (World.news_of_block hb) (by simp [h0]) (by omega) (by unfold maxLen; omega) (by omega) hB w.heap.size rfl
  refine ⟨g, cap, w', fun ty => hr, ho, ⟨hg.os, hg.tape, hg.output, hg.size, fun _ hb => ext_old hb, fun k hk2 ht => hg.block k hk2 (fun e => ht (hk k e.symm))⟩, ?_⟩
  rcases hat with e | e
  · have := (h.lt g e).2
    rw [ext_old this]; exact hk g e
  · exact ext_new (by omega)
/-- the same: numbers -/
theorem app3one {K : Nat → Nat} {w : World} {B n t b : Nat} {v y : Value} {XL : List Value} (h : w.ownsRow B 3 1 v n XL) (hB : B ≤ w.heap.size) (hk : ∀ g, v.ownBlock = some g → K g = t) (hb : w.heap[b]? = some (.cells #[y] 3 (0, 0))) (h0 : y.oneCell' = true) (hn : n ≤ 1000000000000) :
    ∃ g cap w', (∀ ty, (Builtin.append_ #[33, 33] ty #[v, .slice (some ⟨b, 0, none⟩) 1 1]).run Try.prog w = .ok (.slice (some ⟨g, 0, none⟩) (n + 1) cap) w') ∧ w'.ownsRow B 3 1 (.slice (some ⟨g, 0, none⟩) (n + 1) cap) (n + 1) (XL ++ [y]) ∧ Mv (fun x => x = t) w w' K (ext w K (fun _ => t)) ∧ ext w K (fun _ => t) g = t := by
  obtain ⟨i, hi, hz, hs, hby⟩ := info3_ex
  obtain ⟨g, cap, w', hr, ho, hg, hat, hlt⟩ := run_append_lies (P := Try.prog) w 33 0 B 3 i _ 1 8 Try.underlying33 hi hz hs hby rfl (by decide) v n XL h ⟨b, 0, none⟩ 1 1 [y] rfl (World.news_of_block hb) (by simp [h0]) (by omega) (by unfold maxLen; omega) (by omega) hB w.heap.size rfl
  refine ⟨g, cap, w', fun ty => hr, ho, ⟨hg.os, hg.tape, hg.output, hg.size, fun _ hb => ext_old hb, fun k hk2 ht => hg.block k hk2 (fun e => ht (hk k e.symm))⟩, ?_⟩
  rcases hat with e | e
  · have := (h.lt g e).2
    rw [ext_old this]; exact hk g e
  · exact ext_new (by omega)
def whoseL (T : Nat) : List Value := (List.range T).map fun t => .int .i64 ((t / 5 : Nat) : Int)
theorem whoseL_succ (T : Nat) : whoseL (T + 1) = whoseL T ++ [.int .i64 ((T / 5 : Nat) : Int)] := by unfold whoseL; rw [List.range_succ, List.map_append]; rfl
theorem whoseL_at (T t : Nat) (h : t < T) : (whoseL T)[t]? = some (.int .i64 ((t / 5 : Nat) : Int)) := by unfold whoseL; simp [h]
/-- while the i-th list is grown: x has nx; tg: how many of all are known as whose -/
structure PB (K0 : Nat → Nat) (w0 : World) (K : Nat → Nat) (w : World) (B bb n : Nat) (gla : Option Addr) (gl cl : Nat) (LV : Nat → Value) (NV : Nat → Nat) (T U i : Nat) (x : Value) (nx : Nat) (GL : List Value) (vg vh : Value) : Prop where
  lb : LB K0 w0 K w B bb n gla gl cl LV NV vg vh
  lst : ∀ j, j < n → ME K w (LV j) j (NV j) ∧ (j = i → Rel (LV j) x (NV j) nx)
  rest : ∀ j, i < j → j < n → MR K w B j (LV j) (NV j) (NV j)
  g : w.ownsRow B 43 1 vg T GL
  kg : ∀ r, vg.ownBlock = some r → K r = 6
  h : w.ownsRow B 3 1 vh U (whoseL U)
  kh : ∀ r, vh.ownBlock = some r → K r = 7
  ent : ∀ t, t < T → ∃ v m, GL[t]? = some v ∧ ME K w v (t / 5) m ∧ (t / 5 = i → Rel v x m nx)
  x : XO K w B i x nx
section
variable {K0 K : Nat → Nat} {w0 w w' : World} {B bb n : Nat} {gla : Option Addr} {gl cl : Nat} {LV : Nat → Value} {NV : Nat → Nat} {T U i : Nat} {x : Value} {nx : Nat} {GL : List Value} {vg vh : Value}
theorem PB.lenG (h : PB K0 w0 K w B bb n gla gl cl LV NV T U i x nx GL vg vh) : GL.length = T := by simpa using h.g.1
theorem PB.mv {K' : Nat → Nat} {Q : Nat → Prop} (h : PB K0 w0 K w B bb n gla gl cl LV NV T U i x nx GL vg vh) (m : Mv Q w w' K K') (t0 : ¬ Q 0) (t1 : ¬ Q 1) (t8 : ¬ Q 8) (t6 : ¬ Q 6) (t7 : ¬ Q 7) (t10 : ∀ j, ¬ Q (10 + j)) : PB K0 w0 K' w' B bb n gla gl cl LV NV T U i x nx GL vg vh := by
  refine ⟨h.lb.to m t0 t1 t8, fun j hj => ⟨(h.lst j hj).1.mv m (t10 j), (h.lst j hj).2⟩, fun j h1 h2 => (h.rest j h1 h2).mv m (t10 j), own_block h.g (fun r hr => m.kept r (h.g.lt r hr).2 (by rw [h.kg r hr]; exact t6)), fun r hr => (m.old r (h.g.lt r hr).2).trans (h.kg r hr),
    own_block h.h (fun r hr => m.kept r (h.h.lt r hr).2 (by rw [h.kh r hr]; exact t7)), fun r hr => (m.old r (h.h.lt r hr).2).trans (h.kh r hr), fun t ht => ?_, h.x.mv m (t10 i)⟩
  obtain ⟨v, k, e1, e2, e3⟩ := h.ent t ht
  exact ⟨v, k, e1, e2.mv m (t10 _), e3⟩
/-- x grown -/
theorem PB.grow {b : Nat} (h : PB K0 w0 K w B bb n gla gl cl LV NV T U i x nx GL vg vh) (hb : PkAt w b 0 [mkP i]) (hn : nx ≤ 2000) :
    ∃ g cap w' K', (∀ ty, (Builtin.append_ #[43, 43] ty #[x, .slice (some ⟨b, 0, none⟩) 1 1]).run Try.prog w = .ok (.slice (some ⟨g, 0, none⟩) (nx + 1) cap) w') ∧ PB K0 w0 K' w' B bb n gla gl cl LV NV T U i (.slice (some ⟨g, 0, none⟩) (nx + 1) cap) (nx + 1) GL vg vh := by
  obtain ⟨g, cap, w', K', hr, hx, m, hm⟩ := h.x.grow hb hn h.lb.hB
  refine ⟨g, cap, w', K', hr, h.lb.to m (by omega) (by omega) (by omega), fun j hj => ?_, fun j h1 h2 => (h.rest j h1 h2).mv m (by omega), own_block h.g (fun r hr => m.kept r (h.g.lt r hr).2 (by rw [h.kg r hr]; omega)), fun r hr => (m.old r (h.g.lt r hr).2).trans (h.kg r hr),
    own_block h.h (fun r hr => m.kept r (h.h.lt r hr).2 (by rw [h.kh r hr]; omega)), fun r hr => (m.old r (h.h.lt r hr).2).trans (h.kh r hr), fun t ht => ?_, hx⟩
  · by_cases e : j = i
    · subst e
      have := hm _ _ (h.lst j hj).1 ((h.lst j hj).2 rfl)
      exact ⟨this.1, fun _ => this.2⟩
    · exact ⟨(h.lst j hj).1.mv m (by omega), fun e2 => absurd e2 e⟩
  · obtain ⟨v, k, e1, e2, e3⟩ := h.ent t ht
    by_cases e : t / 5 = i
    · have := hm v k (by rw [← e]; exact e2) (e3 e)
      exact ⟨v, k, e1, by rw [e]; exact this.1, fun _ => this.2⟩
    · exact ⟨v, k, e1, e2.mv m (by omega), fun e4 => absurd e4 e⟩
theorem ME.one {v : Value} {j m : Nat} (h : ME K w v j m) : v.oneCell' = true := by obtain ⟨_, oa, c, rfl, _⟩ := h; rfl
/-- x is put behind all that was grown -/
theorem PB.put {b : Nat} (h : PB K0 w0 K w B bb n gla gl cl LV NV T U i x nx GL vg vh) (hT : T / 5 = i) (hn : nx ≤ 2000) (hm : T ≤ 1000000000000) (hb : w.heap[b]? = some (.cells #[x] 43 (0, 0))) :
    ∃ g cap w', (∀ ty, (Builtin.append_ #[32, 32] ty #[vg, .slice (some ⟨b, 0, none⟩) 1 1]).run Try.prog w = .ok (.slice (some ⟨g, 0, none⟩) (T + 1) cap) w') ∧ (w'.cell? ⟨bb, 3, none⟩ = some vg ∧ w'.frozen? ⟨bb, 3, none⟩ = false) ∧
      ∃ K', PB K0 w0 K' (w'.setCell ⟨bb, 3, none⟩ (.slice (some ⟨g, 0, none⟩) (T + 1) cap)) B bb n gla gl cl LV NV (T + 1) U i x nx (GL ++ [x]) (.slice (some ⟨g, 0, none⟩) (T + 1) cap) vh := by
  have hxm := h.x.me hn
  obtain ⟨g, cap, w', hr, ho, m, hkg⟩ := app43one h.g h.lb.hB h.kg hb hxm.one hm
  have hbb := m.kept bb h.lb.lt (by rw [h.lb.kb]; omega)
  have hkb := (m.old bb h.lb.lt).trans h.lb.kb
  have m2 : Mv (fun t => t = 6 ∨ t = 1) w (w'.setCell ⟨bb, 3, none⟩ (.slice (some ⟨g, 0, none⟩) (T + 1) cap)) K (ext w K (fun _ => 6)) := ⟨m.os, m.tape, m.output, by simpa using m.size, m.old, fun k hk ht => by
    rw [Below.heap_setCell _ _ _ k (show k ≠ bb from fun e => ht (by rw [e, h.lb.kb]; exact .inr rfl))]
    exact m.kept k hk (fun e => ht (.inl e))⟩
  have hgb : g ≠ bb := fun e => by rw [e, hkb] at hkg; omega
  have hlb : LB K0 w0 (ext w K (fun _ => 6)) (w'.setCell ⟨bb, 3, none⟩ (.slice (some ⟨g, 0, none⟩) (T + 1) cap)) B bb n gla gl cl LV NV (.slice (some ⟨g, 0, none⟩) (T + 1) cap) vh := by
    refine ⟨(heap_set5 (hbb.trans h.lb.blk) _).2.2.2.1, hkb, fun h0 => ?_, fun j hj => ?_, h.lb.mv.trans (m2.mono (fun t ht => by omega)), Nat.le_trans h.lb.hB m2.size⟩
    · obtain ⟨e1, e2, e3⟩ := h.lb.gla h0
      exact ⟨e1, (m2.old gl e3).trans e2, Nat.lt_of_lt_of_le e3 m2.size⟩
    · obtain ⟨e1, e2, e3⟩ := h.lb.gla (by omega)
      rw [World.cell?_of_block (a := ⟨gl, j, none⟩) (m2.kept gl e3 (by rw [e2]; omega))]
      exact h.lb.cell j hj
  refine ⟨g, cap, w', hr, ⟨(World.cell?_of_block (a := ⟨bb, 3, none⟩) hbb).trans h.lb.c.2.1, (World.frozen?_of_block (a := ⟨bb, 3, none⟩) hbb).trans (h.lb.fz 3)⟩, _, hlb, fun j hj => ⟨(h.lst j hj).1.mv m2 (by omega), (h.lst j hj).2⟩, fun j h1 h2 => (h.rest j h1 h2).mv m2 (by omega), own_block ho (fun k hk => by cases hk; exact Below.heap_setCell _ _ _ _ hgb), fun k hk => by cases hk; exact hkg,
    own_block h.h (fun r hr => m2.kept r (h.h.lt r hr).2 (by rw [h.kh r hr]; omega)), fun r hr => (m2.old r (h.h.lt r hr).2).trans (h.kh r hr), fun t ht => ?_, h.x.mv m2 (by omega)⟩
  rcases Nat.lt_or_ge t T with h0 | h0
  · obtain ⟨v, k, e1, e2, e3⟩ := h.ent t h0
    exact ⟨v, k, by rw [List.getElem?_append_left (by rw [h.lenG]; exact h0)]; exact e1, e2.mv m2 (by omega), e3⟩
  · obtain rfl : t = T := by omega
    refine ⟨x, nx, by rw [List.getElem?_append_right (by rw [h.lenG]; omega), h.lenG]; simp, ?_, fun _ g e1 e2 => Nat.le_refl _⟩
    rw [hT]; exact hxm.mv m2 (by omega)
/-- and whose it is -/
theorem PB.who {b : Nat} (h : PB K0 w0 K w B bb n gla gl cl LV NV T U i x nx GL vg vh) (hU : U / 5 = i) (hm : U ≤ 1000000000000) (hb : w.heap[b]? = some (.cells #[.int .i64 (i : Int)] 3 (0, 0))) :
    ∃ g cap w', (∀ ty, (Builtin.append_ #[33, 33] ty #[vh, .slice (some ⟨b, 0, none⟩) 1 1]).run Try.prog w = .ok (.slice (some ⟨g, 0, none⟩) (U + 1) cap) w') ∧ (w'.cell? ⟨bb, 4, none⟩ = some vh ∧ w'.frozen? ⟨bb, 4, none⟩ = false) ∧
      ∃ K', PB K0 w0 K' (w'.setCell ⟨bb, 4, none⟩ (.slice (some ⟨g, 0, none⟩) (U + 1) cap)) B bb n gla gl cl LV NV T (U + 1) i x nx GL vg (.slice (some ⟨g, 0, none⟩) (U + 1) cap) := by
  obtain ⟨g, cap, w', hr, ho, m, hkg⟩ := app3one h.h h.lb.hB h.kh hb rfl hm
  have hbb := m.kept bb h.lb.lt (by rw [h.lb.kb]; omega)
  have hkb := (m.old bb h.lb.lt).trans h.lb.kb
  have m2 : Mv (fun t => t = 7 ∨ t = 1) w (w'.setCell ⟨bb, 4, none⟩ (.slice (some ⟨g, 0, none⟩) (U + 1) cap)) K (ext w K (fun _ => 7)) := ⟨m.os, m.tape, m.output, by simpa using m.size, m.old, fun k hk ht => by
    rw [Below.heap_setCell _ _ _ k (show k ≠ bb from fun e => ht (by rw [e, h.lb.kb]; exact .inr rfl))]
    exact m.kept k hk (fun e => ht (.inl e))⟩
  have hgb : g ≠ bb := fun e => by rw [e, hkb] at hkg; omega
  rw [← hU, ← whoseL_succ] at ho
  have hlb : LB K0 w0 (ext w K (fun _ => 7)) (w'.setCell ⟨bb, 4, none⟩ (.slice (some ⟨g, 0, none⟩) (U + 1) cap)) B bb n gla gl cl LV NV vg (.slice (some ⟨g, 0, none⟩) (U + 1) cap) := by
    refine ⟨(heap_set5 (hbb.trans h.lb.blk) _).2.2.2.2, hkb, fun h0 => ?_, fun j hj => ?_, h.lb.mv.trans (m2.mono (fun t ht => by omega)), Nat.le_trans h.lb.hB m2.size⟩
    · obtain ⟨e1, e2, e3⟩ := h.lb.gla h0
      exact ⟨e1, (m2.old gl e3).trans e2, Nat.lt_of_lt_of_le e3 m2.size⟩
    · obtain ⟨e1, e2, e3⟩ := h.lb.gla (by omega)
      rw [World.cell?_of_block (a := ⟨gl, j, none⟩) (m2.kept gl e3 (by rw [e2]; omega))]
      exact h.lb.cell j hj
  refine ⟨g, cap, w', hr, ⟨(World.cell?_of_block (a := ⟨bb, 4, none⟩) hbb).trans h.lb.c.2.2, (World.frozen?_of_block (a := ⟨bb, 4, none⟩) hbb).trans (h.lb.fz 4)⟩, _, hlb, fun j hj => ⟨(h.lst j hj).1.mv m2 (by omega), (h.lst j hj).2⟩, fun j h1 h2 => (h.rest j h1 h2).mv m2 (by omega), own_block h.g (fun r hr => m2.kept r (h.g.lt r hr).2 (by rw [h.kg r hr]; omega)), fun r hr => (m2.old r (h.g.lt r hr).2).trans (h.kg r hr),
    own_block ho (fun k hk => by cases hk; exact Below.heap_setCell _ _ _ _ hgb), fun k hk => by cases hk; exact hkg, fun t ht => ?_, h.x.mv m2 (by omega)⟩
  obtain ⟨v, k, e1, e2, e3⟩ := h.ent t ht
  exact ⟨v, k, e1, e2.mv m2 (by omega), e3⟩
/-- between two lists -/
structure PQ (K0 : Nat → Nat) (w0 : World) (K : Nat → Nat) (w : World) (B bb n : Nat) (gla : Option Addr) (gl cl : Nat) (LV : Nat → Value) (NV : Nat → Nat) (i : Nat) (GL : List Value) (vg vh : Value) : Prop where
  lb : LB K0 w0 K w B bb n gla gl cl LV NV vg vh
  lst : ∀ j, j < n → ME K w (LV j) j (NV j)
  rest : ∀ j, i ≤ j → j < n → MR K w B j (LV j) (NV j) (NV j)
  g : w.ownsRow B 43 1 vg (5 * i) GL
  kg : ∀ r, vg.ownBlock = some r → K r = 6
  h : w.ownsRow B 3 1 vh (5 * i) (whoseL (5 * i))
  kh : ∀ r, vh.ownBlock = some r → K r = 7
  ent : ∀ t, t < 5 * i → ∃ v m, GL[t]? = some v ∧ ME K w v (t / 5) m
theorem PQ.begin (h : PQ K0 w0 K w B bb n gla gl cl LV NV i GL vg vh) (hi : i < n) : PB K0 w0 K w B bb n gla gl cl LV NV (5 * i) (5 * i) i (LV i) (NV i) GL vg vh := by
  refine ⟨h.lb, fun j hj => ⟨h.lst j hj, fun e => by subst e; exact fun _ _ _ => Nat.le_refl _⟩, fun j h1 h2 => h.rest j (by omega) h2, h.g, h.kg, h.h, h.kh, fun t ht => ?_, (h.rest i (Nat.le_refl _) hi).xo⟩
  obtain ⟨v, m, e1, e2⟩ := h.ent t ht
  exact ⟨v, m, e1, e2, fun e => by omega⟩
theorem PB.done (h : PB K0 w0 K w B bb n gla gl cl LV NV (5 * (i + 1)) (5 * (i + 1)) i x nx GL vg vh) : PQ K0 w0 K w B bb n gla gl cl LV NV (i + 1) GL vg vh := by
  refine ⟨h.lb, fun j hj => (h.lst j hj).1, fun j h1 h2 => h.rest j (by omega) h2, h.g, h.kg, h.h, h.kh, fun t ht => ?_⟩
  obtain ⟨v, m, e1, e2, _⟩ := h.ent t ht
  exact ⟨v, m, e1, e2⟩
end
theorem ME.row {K : Nat → Nat} {w : World} {v : Value} {j m : Nat} (h : ME K w v j m) : PkRow w v (mks j m) := by
  obtain ⟨_, oa, c, rfl, h2⟩ := h
  rcases Nat.eq_zero_or_pos m with h0 | h0
  · subst h0
    exact ⟨oa, c, 0, 0, by rw [mks_len], fun h => by simp [mks] at h, ⟨fun i t h => by simp [mks] at h, fun i t h => by simp [mks] at h, fun i t h => by simp [mks] at h⟩⟩
  · obtain ⟨g, rfl, _, _, h5⟩ := h2 h0
    exact ⟨_, c, g, 0, by rw [mks_len], fun _ => rfl, h5⟩
end Go.Proofs.Ytlnaejhdnbmmjaa
