/- Services: the document's Find. -/
import Derived.Test.YtcpjihaicmlmjaaPTa
namespace Go.Proofs.Ytcpjihaicmlmjaa
open Go.RowKit
theorem rfind_at {p v c : Int} {L : List Sv} {j : Nat} {s : Sv} (hs : L[j]? = some s) (low high : Int) : rfind p v c (L.drop j) low high = if (s.prog == p) = true then (if (s.vers == v) = true then (if hasP s.procs c = true then (0, 0, 0) else (3, 0, 0)) else rfind p v c (L.drop (j + 1)) (lowN low s.vers) (max high s.vers)) else rfind p v c (L.drop (j + 1)) low high := by
  have hj : j < L.length := (List.getElem?_eq_some_iff.1 hs).1
  have e : L[j] = s := (List.getElem?_eq_some_iff.1 hs).2
  rw [List.drop_eq_getElem_cons hj, e]
  rfl
set_option maxRecDepth 8000 in
set_option maxHeartbeats 1000000 in
theorem dfind_any {K : Nat → Nat} {w : World} {t u b : Nat} {vv : Value} {L : List Sv} (h : RR K w t u b vv L) (p v c : Int) :
    Calls Try.prog 10 #[ptr b, .int .i64 p, .int .i64 v, .int .i64 c] w fun e w' => e = .returned (tup3 (findP L p v c)) ∧ Below w.heap.size w w' := by
  obtain ⟨oa, cap, rfl⟩ := h.form
  have H0 := hid h
  have c0 := h.c0
  obtain ⟨n, hn⟩ : ∃ n, L.length = n := ⟨_, rfl⟩
  have HN := hid hn
  obtain ⟨R, hR⟩ : ∃ R, findP L p v c = R := ⟨_, rfl⟩
  have HR : Hid (rfind p v c (L.drop 0) (-1) (-1) = R) := by
    show _ = _
    rw [← hR, List.drop_zero]
    exact rfind_all (fun s hs => ok_vers (h.ok s hs))
  have HM := hid (hn ▸ h.most)
  rw [hn] at c0 H0
  rw [hR]
  clear h hn hR
  go_enter Try.func10, Try.ntmps10
  go_wp2_with fail
  go_loopw [11, 12, 13] (fun lo hi ix wr => ∃ (j : Nat) (a d : Int), lo = .int .i64 a ∧ hi = .int .i64 d ∧ ix = .int .i64 j ∧ j ≤ n ∧ Hid (rfind p v c (L.drop j) a d = R) ∧ Hid (Below w.heap.size w wr)) (fun _ _ ix _ => n - (intOf ix).toNat)
  case atStart => exact ⟨0, -1, -1, rfl, rfl, rfl, by omega, HR, (Below.refl _ _ : Below w.heap.size w w)⟩
  case round =>
    obtain ⟨j, a, d, rfl, rfl, rfl, hj, HE, HB⟩ := hrel
    have cr := (H0.out.below HB.out (fun _ => 9)).c0
    by_cases hlt : j < n
    · obtain ⟨g, ho, hg, hc⟩ := H0.out.at_ (by have := HN.out; omega)
      obtain ⟨s, hs⟩ : ∃ s, L[j]? = some s := ⟨L[j]'(by have := HN.out; omega), List.getElem?_eq_getElem _⟩
      have HOK := hid (And.intro (H0.out.gs s (List.mem_of_getElem? hs)) (H0.out.ok s (List.mem_of_getElem? hs)))
      have d0 : wr.cell? ⟨g, j * 3, none⟩ = some (.int .i64 s.prog) := (cell_of_block (HB.out.block g hg)).trans (hc j s hs 0 (by omega))
      have d1 : wr.cell? ⟨g, j * 3 + 1, none⟩ = some (.int .i64 s.vers) := (cell_of_block (HB.out.block g hg)).trans (hc j s hs 1 (by omega))
      have d2 : wr.cell? ⟨g, j * 3 + 2, none⟩ = some (.slice s.oa s.procs.length s.cap) := (cell_of_block (HB.out.block g hg)).trans (hc j s hs 2 (by omega))
      have HE2 := hid ((rfind_at hs a d).symm.trans HE.out)
      subst ho
      have j0 : (0 : Int) ≤ (j : Int) := by omega
      have j1 : (j : Int) < (n : Int) := by omega
      have hw := wrapJ hlt (Nat.le_trans HM.out (by omega))
      obtain ⟨S1, hS1⟩ : ∃ S1, wr.heap.size = S1 := ⟨_, rfl⟩
      obtain ⟨w1, w2, w3, w4, ⟨e1, e2, e3, e4⟩, ⟨x10, x11, x12, x21, x22, x32⟩, ⟨f1, f2, f3⟩, k4, b4, s4⟩ := box3 wr 55 (.int .i64 0) (.int .i64 0) (.slice none 0 0) (.int .i64 s.prog) (.int .i64 s.vers) (.slice s.oa s.procs.length s.cap) S1 hS1
      have y0 : w4.cell? ⟨S1, 0, none⟩ = some (.int .i64 s.prog) := by unfold World.cell?; rw [k4]; rfl
      have y1 : w4.cell? ⟨S1, 1, none⟩ = some (.int .i64 s.vers) := by unfold World.cell?; rw [k4]; rfl
      have y2 : w4.cell? ⟨S1, 2, none⟩ = some (.slice s.oa s.procs.length s.cap) := by unfold World.cell?; rw [k4]; rfl
      have HB4 : Hid (Below w.heap.size w w4) := HB.out.trans (b4.mono HB.out.size)
      clear hc b4 k4 s4 hs
      cases hp : (s.prog == p)
      · have hpn : ¬ s.prog = p := by simpa using hp
        rw [hp, if_neg (by simp)] at HE2
        go_wp2
        go_roundw
        case rel => exact ⟨j + 1, a, d, rfl, rfl, by go_num, hlt, HE2, HB4⟩
        case measure => exact meas (by go_num) j1
      · have hpe : (s.prog != p) = false := by simpa using hp
        rw [hp, if_pos rfl] at HE2
        cases hv : (s.vers == v)
        · have hvn : ¬ s.vers = v := by simpa using hv
          rw [hv, if_neg (by simp)] at HE2
          by_cases ha : a < 0
          · rw [show lowN a s.vers = s.vers by unfold lowN; rw [if_pos (.inl ha)]] at HE2
            go_wp2
            go_roundw
            case rel => exact ⟨j + 1, s.vers, max d s.vers, rfl, by go_num, by go_num, hlt, HE2, HB4⟩
            case measure => exact meas (by go_num) j1
          · by_cases hx : s.vers < a
            · rw [show lowN a s.vers = s.vers by unfold lowN; rw [if_pos (.inr hx)]] at HE2
              go_wp2
              go_roundw
              case rel => exact ⟨j + 1, s.vers, max d s.vers, rfl, by go_num, by go_num, hlt, HE2, HB4⟩
              case measure => exact meas (by go_num) j1
            · rw [show lowN a s.vers = a by unfold lowN; rw [if_neg (by omega)]] at HE2
              go_wp2
              go_roundw
              case rel => exact ⟨j + 1, a, max d s.vers, rfl, by go_num, by go_num, hlt, HE2, HB4⟩
              case measure => exact meas (by go_num) j1
        · rw [hv, if_pos rfl] at HE2
          have HH := hid (rhas_any s c w4 ((HOK.out.1.at_.below HB4.out).mono HB4.out.size) (Nat.le_trans HOK.out.2.2.2.2 (by omega)))
          generalize hasP s.procs c = q at *
          go_wp2_with fail
          refine HH.out.mono ?_
          rintro _ w5 ⟨rfl, hb5⟩
          have HB5 := hid (HB4.out.trans (hb5.mono HB4.out.size))
          clear hb5 HH
          cases q
          · have hR : (3, 0, 0) = R := HE2.out
            subst hR
            go_wp2
            go_ret3
            exact ⟨rfl, HB5.out⟩
          · have hR : (0, 0, 0) = R := HE2.out
            subst hR
            go_wp2
            go_ret3
            exact ⟨rfl, HB5.out⟩
    · obtain rfl : j = n := by omega
      have HE2 : Hid ((if a < 0 then (1, 0, 0) else (2, a, d)) = R) := by
        have := HE.out
        rw [List.drop_eq_nil_of_le (by have := HN.out; omega)] at this
        exact this
      by_cases ha : a < 0
      · rw [if_pos ha] at HE2
        have hR : (1, 0, 0) = R := HE2.out
        subst hR
        go_wp2
        go_ret3
        exact ⟨rfl, HB.out⟩
      · rw [if_neg ha] at HE2
        have hR : (2, a, d) = R := HE2.out
        subst hR
        go_wp2
        go_ret3
        exact ⟨rfl, HB.out⟩
end Go.Proofs.Ytcpjihaicmlmjaa
