/- The document's shelf: Keys, All, Takes; keys compared. -/
import Derived.Test.YtkkamilmjaochaaPBe
import Derived.Test.YtkkamilmjaochaaPPa
namespace Go.Proofs.Ytkkamilmjaochaa
open Go.RowKit
theorem bls109 (w : World) (s : ByteArray) (n : Int) : (Instr.buildSlice 109 1 #[(0, .agg #[.string s, .int .i64 n])]).run Try.prog w = .ok (.slice (some ⟨w.heap.size, 0, none⟩) 1 1) (w.alloc (.cells #[.string s, .int .i64 n] 32)) := by kernel_rfl
section
variable {K K' : Nat → Nat} {w w' : World} {B t x most : Nat} {v : Value} {L : List Pr}
def KR2 (w : World) (B n : Nat) (L : List Pr) (j : Nat) (v : Value) (wr : World) : Prop := j ≤ n ∧ wr.ownsRow B 32 2 v j (kcsK ((L.take j).map Pr.k)) ∧ Below B w wr
set_option maxRecDepth 4000 in
theorem dkeys_any (h : DS K w B t x most v L) (hl : L.length ≤ 10000000) :
    Calls Try.prog 46 #[ptr x] w fun e w' => ∃ v', e = .returned v' ∧ w'.ownsRow w.heap.size 32 2 v' L.length (kcsK (L.map Pr.k)) ∧ Below w.heap.size w w' := by
  obtain ⟨oa, cap, e1, _, hg⟩ := h.l.form
  subst e1
  obtain ⟨n, hn⟩ : ∃ n, L.length = n := ⟨_, rfl⟩
  obtain ⟨D, hD⟩ : ∃ D, w.heap.size = D := ⟨_, rfl⟩
  have HH := hid h
  have HN := hid (And.intro hn hl)
  have HG := hid hg
  have HD := hid hD
  rw [hn, hD]
  clear h hl hg hn hD
  go_enter Try.func46, Try.ntmps46
  go_wp2_with fail
  go_loopw [3, 4] (fun u3 u4 wr => ∃ j : Nat, u4 = .int .i64 j ∧ KR2 w D n L j u3 wr) (fun _ u4 _ => n - (intOf u4).toNat)
  case atStart => exact ⟨0, rfl, Nat.zero_le _, ⟨rfl, .inl ⟨rfl, rfl⟩⟩, Below.refl _ _⟩
  case round =>
    obtain ⟨j, rfl, hj, hown, hbe⟩ := hrel
    have hbe2 := hbe
    rw [← HD.out] at hbe2
    have hdr := HH.out.mv (Mv.of_below hbe2 K (fun _ => t + 9)) id id
    have c1 := hdr.c1
    rw [HN.out.1] at c1
    by_cases hjn : j < n
    · have hj' : (j : Int) < (n : Int) := by omega
      have hj0 : (0 : Int) ≤ (j : Int) := by omega
      obtain ⟨y, hy⟩ : ∃ y, L[j]? = some y := ⟨_, List.getElem?_eq_getElem (by rw [HN.out.1]; exact hjn)⟩
      obtain ⟨g9, hg9⟩ := HG.out (by have := HN.out.1; omega)
      subst hg9
      have hr := hdr.l
      rw [HN.out.1] at hr
      have t0 : wr.cell? ⟨g9, j * 3, none⟩ = some (.string y.k.s) := hr.cell prL HN.out.1 hy 0 (by omega)
      have t1 : wr.cell? ⟨g9, j * 3 + 1, none⟩ = some (.int .i64 y.k.n) := hr.cell prL HN.out.1 hy 1 (by omega)
      have hwr : wrap64 ((j : Int) + 1) = (j : Int) + 1 := by have := HN.out; unfold wrap64; omega
      obtain ⟨w1, hw1⟩ : ∃ w1, wr.alloc (.cells #[.string y.k.s, .int .i64 y.k.n] 32) = w1 := ⟨_, rfl⟩
      obtain ⟨N, hN⟩ : ∃ N, wr.heap.size = N := ⟨_, rfl⟩
      have hbs : D ≤ wr.heap.size := by rw [← HD.out]; exact hbe.size
      have B1 : Below D w w1 := by rw [← hw1]; exact hbe.alloc hbs _
      obtain ⟨g', cap', w2, hap, ho, hgr, hat, hl2⟩ := kappK (w := w1) (B := D) (n := j) (v := u3) (by rw [← hw1]; exact own_block hown (fun b hb => Below.heap_alloc _ _ _ (hown.lt b hb).2)) (by rw [← hw1]; simp; omega) y.k (N := N) (by rw [← hw1, ← hN]; exact (MapKept.heap_alloc wr _).1) (by have := HN.out; omega)
      have HR : Hid (KR2 w D n L (j + 1) (.slice (some ⟨g', 0, none⟩) (j + 1) cap') w2) := by
        refine ⟨hjn, ?_, B1.grown hgr (by rw [← hw1]; simp; omega) (fun k hk => (hown.lt k hk).1)⟩
        rw [List.take_add_one, hy]
        simp only [Option.toList_some, List.map_append, List.map_cons, List.map_nil]
        rw [show kcsK (List.map Pr.k (L.take j) ++ [y.k]) = kcsK (List.map Pr.k (L.take j)) ++ kcK y.k by simp [kcsK]]
        exact ho
      obtain ⟨oa3, c3, e3⟩ : ∃ oa3 c3, u3 = .slice oa3 j c3 := by
        rcases hown.2 with ⟨e1, e2⟩ | ⟨gg, cc, _, e1, _⟩
        · exact ⟨none, 0, by rw [e2]; exact e1⟩
        · exact ⟨_, _, e1⟩
      subst e3
      have R1 := hid hap
      have hbs1 := fun w => bls109 w y.k.s y.k.n
      obtain ⟨HDp, hHD⟩ : ∃ HDp : Prop, HDp := ⟨True, trivial⟩
      have HHD := hid hHD
      clear hbe hbe2 hdr hown hr B1 ho hgr hat hl2 hy hap hHD hbs hj
      generalize y.k.s = ys at *
      generalize y.k.n = yn at *
      go_upto_region 5 with fail
      go_wp2_with (at_builtin; refine decoy (D := HDp) ?_ ?_)
      · exact HHD.out
      refine (show Hid _ from ?_)
      refine wpList_app rfl _ _ 109 rfl _ _ _ _ rfl rfl (R1.out _) ?_
      clear R1 HHD hbs1
      go_wp2
      go_roundw
      case rel => exact ⟨j + 1, by first | (rw [hwr]; rfl) | rfl, HR.out⟩
      case measure => first | exact meas hwr hj' | exact meas rfl hj'
    · obtain rfl : j = n := by omega
      have HR : Hid (wr.ownsRow D 32 2 u3 j (kcsK (L.map Pr.k)) ∧ Below D w wr) := by
        rw [List.take_of_length_le (by rw [HN.out.1]; exact Nat.le_refl _)] at hown
        exact ⟨hown, hbe⟩
      clear hbe hbe2 hdr hown
      go_wp2
      go_ret
      exact ⟨_, rfl, HR.out⟩
/-- two rows of keys that are the same -/
theorem keys_same {va vb : Value} {n B1 B2 : Nat} {l : List KeyP} (hn : l.length = n) (ha : w.ownsRow B1 32 2 va n (kcsK l)) (hb : w.ownsRow B2 32 2 vb n (kcsK l)) (hl : n ≤ 10000000) :
    Calls Try.prog 47 #[va, vb] w fun e w' => e = .returned (.bool true) ∧ ∃ k, w' = w.drewN k := by
  obtain ⟨oa, ca, rfl⟩ : ∃ oa ca, va = .slice oa n ca := by
    rcases ha.2 with ⟨e1, e2⟩ | ⟨gg, cc, _, e1, _⟩
    · exact ⟨none, 0, by rw [e2]; exact e1⟩
    · exact ⟨_, _, e1⟩
  obtain ⟨ob, cb, rfl⟩ : ∃ ob cb, vb = .slice ob n cb := by
    rcases hb.2 with ⟨e1, e2⟩ | ⟨gg, cc, _, e1, _⟩
    · exact ⟨none, 0, by rw [e2]; exact e1⟩
    · exact ⟨_, _, e1⟩
  have HAB := hid (And.intro ha hb)
  have HN := hid (And.intro hn hl)
  have keq : ((n : Int) == (n : Int)) = true := by simp
  clear ha hb hn hl
  go_enter Try.func47, Try.ntmps47
  go_wp2_with fail
  go_loopw [5] (fun u5 wr => ∃ j q : Nat, u5 = .int .i64 j ∧ w.drewN q = wr ∧ j ≤ n) (fun u5 _ => n - (intOf u5).toNat)
  case atStart => exact ⟨0, 0, rfl, rfl, Nat.zero_le _⟩
  case round =>
    obtain ⟨j, q, rfl, hwk, hj⟩ := hrel
    by_cases hjn : j < n
    · have hj' : (j : Int) < (n : Int) := by omega
      have hj0 : (0 : Int) ≤ (j : Int) := by omega
      obtain ⟨y, hy⟩ : ∃ y, l[j]? = some y := ⟨_, List.getElem?_eq_getElem (by rw [HN.out.1]; exact hjn)⟩
      obtain ⟨ga, _, e1, _⟩ := HAB.out.1.form (by omega)
      obtain ⟨gb, _, e2, _⟩ := HAB.out.2.form (by omega)
      cases e1
      cases e2
      have hg : ∀ k, k < 2 → (kcsK l)[j * 2 + k]? = (kcK y)[k]? := fun k hk => fm_get (cf := kcK) (sz := 2) (fun _ => rfl) l j k y hk hy
      have a0 : wr.cell? ⟨ga, j * 2, none⟩ = some (.string y.s) := by rw [← hwk]; exact (HAB.out.1.cellAt (j * 2) (by omega)).trans (hg 0 (by omega))
      have a1 : wr.cell? ⟨ga, j * 2 + 1, none⟩ = some (.int .i64 y.n) := by rw [← hwk]; exact (HAB.out.1.cellAt (j * 2 + 1) (by omega)).trans (hg 1 (by omega))
      have b0 : wr.cell? ⟨gb, j * 2, none⟩ = some (.string y.s) := by rw [← hwk]; exact (HAB.out.2.cellAt (j * 2) (by omega)).trans (hg 0 (by omega))
      have b1 : wr.cell? ⟨gb, j * 2 + 1, none⟩ = some (.int .i64 y.n) := by rw [← hwk]; exact (HAB.out.2.cellAt (j * 2 + 1) (by omega)).trans (hg 1 (by omega))
      have hwr : wrap64 ((j : Int) + 1) = (j : Int) + 1 := by have := HN.out; unfold wrap64; omega
      have HWK : Hid (∀ m, w.drewN (q + m) = wr.drewN m) := fun m => by rw [← hwk, World.drewN_drewN]
      have hgd := fun w op x y xs ys => guard32n w op x y xs ys
      have hq : ∀ w, (binOp .neq 32 (.agg #[.string y.s, .int .i64 y.n]) (.agg #[.string y.s, .int .i64 y.n])).run Try.prog w = .ok (.bool false) w := fun w => by
        have := neq32 w y y
        rw [(keyEq_is y y).2 rfl] at this
        exact this
      clear hwk hy hg
      generalize y.s = ys at *
      generalize y.n = yn at *
      go_wp2_with fail
      go_quiet (fail)
      go_wp2
      go_roundw
      case rel => exact ⟨j + 1, q + nq, by first | (rw [hwr]; rfl) | rfl, HWK.out nq, hjn⟩
      case measure => first | exact meas hwr hj' | exact meas rfl hj'
    · obtain rfl : j = n := by omega
      have HE : Hid (∃ k, wr = w.drewN k) := ⟨q, hwk.symm⟩
      clear hwk
      go_wp2
      go_ret
      exact ⟨rfl, HE.out⟩
end
end Go.Proofs.Ytkkamilmjaochaa
