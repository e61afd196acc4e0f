/- The law's own functions: known, ints. -/
import Derived.Test.YtihcdahmfdijoaaGreatDoorCl
namespace Go.Proofs.YtihcdahmfdijoaaGreatDoor
open Go.RowKit
def knS : SysP := ⟨7, [97, 98], 1, 2, [3]⟩
theorem known_any (w : World) : Calls Tryz.prog 18 #[] w fun e w' => (∃ g, e = .returned (.agg #[.int .i64 7, .string ⟨#[97, 98]⟩, .int .i64 1, .int .i64 2, .slice (some ⟨g, 0, none⟩) 1 1]) ∧ GsAt w' w'.heap.size (some ⟨g, 0, none⟩) [3]) ∧ Below w.heap.size w w' := by
  go_enter Tryz.func18, Tryz.ntmps18
  go_wp2
  generalize hW : World.alloc _ _ = W
  have hk : Bk W w.heap.size [.int .i64 7, .string ⟨#[97, 98]⟩, .int .i64 1, .int .i64 2, .slice (some ⟨w.heap.size + 1, 0, none⟩) 1 1] 30 := by
    rw [← hW]
    exact (Bk.new w [.int .i64 7, .string ⟨#[97, 98]⟩, .int .i64 1, .int .i64 2, .slice (some ⟨w.heap.size + 1, 0, none⟩) 1 1] _).below (below_new _ _) (by simp)
  have hs := two_start [.int .i64 7, .string ⟨#[97, 98]⟩, .int .i64 1, .int .i64 2, .slice (some ⟨w.heap.size + 1, 0, none⟩) 1 1] [.int .i64 3] _ _ w W hW.symm
  have q0 := hk.cell 0 rfl
  have q1 := hk.cell 1 rfl
  have q2 := hk.cell 2 rfl
  have q3 := hk.cell 3 rfl
  have q4 := hk.cell 4 rfl
  refine bodyPost_ret (v := .agg #[.int .i64 7, .string ⟨#[97, 98]⟩, .int .i64 1, .int .i64 2, .slice (some ⟨w.heap.size + 1, 0, none⟩) 1 1]) (by simp [results, Tryz.results18, go_sem, q0, q1, q2, q3, q4]) rfl ⟨⟨_, rfl, fun _ => ⟨_, 0, rfl, by omega, fun i hi => ?_⟩⟩, hs.2.1⟩
  obtain rfl : i = 0 := by simp at hi; exact hi
  exact hs.1.cell 0 rfl
theorem OwnI.gsAt {w : World} {base : Nat} {a : Option Addr} {n cap : Nat} {gs : List Int} (h : OwnI w base (.slice a n cap) gs) : GsAt w w.heap.size a gs := fun h0 => by
  rcases h.2 with ⟨h1, h2⟩ | ⟨g, c, cur, h1, h3⟩
  · omega
  · cases h1
    refine ⟨g, 0, rfl, (h.lt g rfl).2, fun i hi => ?_⟩
    have := World.ownsRow.cells h (g := g) rfl i (.int .i64 (gs.getD i 0)) (by
      unfold intsV
      rw [List.getElem?_map, List.getElem?_eq_getElem hi, List.getD_eq_getElem?_getD, List.getElem?_eq_getElem hi]; rfl)
    unfold Addr.add at this
    split at this
    · rename_i h9; subst h9; simpa using this
    · simpa using this
set_option maxRecDepth 4000 in
theorem ints_any (oa ob : Option Addr) (ca cb : Nat) (gs hs : List Int) (w : World) (hg : GsAt w w.heap.size oa gs) (hh : GsAt w w.heap.size ob hs) (hl : (gs.length : Int) ≤ 9223372036854775807) :
    Calls Tryz.prog 30 #[.slice oa gs.length ca, .slice ob hs.length cb] w fun e w' => e = .returned (.bool (gs == hs)) ∧ Below w.heap.size w w' := by
  by_cases hlen : gs.length = hs.length
  · have HG := hid hg
    have HH := hid hh
    obtain ⟨n, hn⟩ : ∃ n, gs.length = n := ⟨_, rfl⟩
    have hm : hs.length = n := hlen.symm.trans hn
    have HN := hid (And.intro hn hm)
    obtain ⟨r, hr⟩ : ∃ r, (gs == hs) = r := ⟨_, rfl⟩
    have HR : Hid ((∀ i, i < n → gs.getD i 0 = hs.getD i 0) ↔ r = true) := by
      show _ ↔ _
      rw [← hr, beq_iff_eq]
      constructor
      · intro H
        apply List.ext_getElem hlen
        intro i h1 h2
        have := H i (by omega)
        rwa [List.getD_eq_getElem?_getD, List.getD_eq_getElem?_getD, List.getElem?_eq_getElem h1, List.getElem?_eq_getElem h2] at this
      · intro H i _; rw [H]
    rw [hr, hn, hm]
    rw [hn] at hl
    clear hg hh hn hm hlen hr
    go_enter Tryz.func30, Tryz.ntmps30
    go_wp2_with fail
    go_loopw [5] (fun ix wr => ∃ j : Nat, ix = .int .i64 j ∧ j ≤ n ∧ Hid (∀ i, i < j → gs.getD i 0 = hs.getD i 0) ∧ Hid (Below w.heap.size w wr)) (fun ix _ => n - (intOf ix).toNat)
    case atStart => exact ⟨0, rfl, by omega, (fun i hi => by omega : ∀ i, i < 0 → gs.getD i 0 = hs.getD i 0), (Below.refl _ _ : Below w.heap.size w w)⟩
    case round =>
      obtain ⟨j, rfl, hj, HE, HB⟩ := hrel
      by_cases hlt : j < n
      · obtain ⟨q, off, ho, hq, hc⟩ := HG.out (by have := HN.out; omega)
        obtain ⟨q', off', ho', hq', hc'⟩ := HH.out (by have := HN.out; omega)
        have d1 : wr.cell? ⟨q, off + j, none⟩ = some (.int .i64 (gs.getD j 0)) := (cells_of_block (HB.out.block q hq) _).1.trans (hc j (by have := HN.out; omega))
        have d2 : wr.cell? ⟨q', off' + j, none⟩ = some (.int .i64 (hs.getD j 0)) := (cells_of_block (HB.out.block q' hq') _).1.trans (hc' j (by have := HN.out; omega))
        subst ho ho'
        obtain ⟨x, hx⟩ : ∃ x, gs.getD j 0 = x := ⟨_, rfl⟩
        obtain ⟨y, hy⟩ : ∃ y, hs.getD j 0 = y := ⟨_, rfl⟩
        rw [hx] at d1
        rw [hy] at d2
        have HX := hid (And.intro hx hy)
        have i0 : (0 : Int) ≤ (j : Int) := by omega
        have i1 : (j : Int) < (n : Int) := by omega
        clear hc hc' hx hy
        by_cases hxy : x = y
        · have HE2 : Hid (∀ i, i < j + 1 → gs.getD i 0 = hs.getD i 0) := fun i hi => by
            rcases Nat.lt_or_ge i j with h | h
            · exact HE.out i h
            · obtain rfl : i = j := by omega
              rw [HX.out.1, HX.out.2, hxy]
          clear HX
          subst hxy
          go_wp2_with fail
          go_quiet (fail)
          go_wp2
          go_roundw
          case rel => exact ⟨j + 1, by go_num, by omega, HE2, below_drew HB.out _⟩
          case measure => simp [intOf]; omega
        · have hr : r = false := by
            cases r
            · rfl
            · exact absurd (HR.out.2 rfl j hlt) (by rw [HX.out.1, HX.out.2]; exact hxy)
          subst hr
          have e1 : (x != y) = true := bne_iff_ne.2 hxy
          go_wp2_with fail
          go_quiet (fail)
          go_wp2
          go_ret
          exact ⟨rfl, below_drew HB.out _⟩
      · obtain rfl : j = n := by omega
        have hr : r = true := HR.out.1 HE.out
        subst hr
        go_wp2
        go_ret
        exact ⟨rfl, HB.out⟩
  · have hb : (gs == hs) = false := by
      simp only [beq_eq_false_iff_ne, ne_eq]
      exact fun e => hlen (by rw [e])
    rw [hb]
    have h1 : ((gs.length : Int) != (hs.length : Int)) = true := by simp; omega
    have h2 : ¬ (gs.length : Int) = (hs.length : Int) := by omega
    generalize gs.length = n at *
    generalize hs.length = m at *
    go_enter Tryz.func30, Tryz.ntmps30
    go_wp2
    go_ret
    exact ⟨rfl, Below.refl _ _⟩
end Go.Proofs.YtihcdahmfdijoaaGreatDoor
