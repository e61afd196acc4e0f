/- ShelfPlays: alike. -/
import Derived.Test.YtkkamilmjaochaaPCa
namespace Go.Proofs.Ytkkamilmjaochaa
open Go.RowKit
theorem alike_nil (w : World) (y : Nat) (a b c : Value) (h : w.heap[y]? = some (.cells #[a, .pointer none, b, c] 39)) : Calls Try.prog 13 #[ptr y] w fun e w' => e = .returned (.bool true) ∧ w' = w := by
  have c1 : w.cell? ⟨y, 1, none⟩ = some (.pointer none) := by unfold World.cell?; rw [h]; rfl
  clear h
  go_enter Try.func13, Try.ntmps13
  go_wp2
  go_ret
  exact ⟨rfl, rfl⟩
set_option maxRecDepth 8000 in
set_option maxHeartbeats 4000000 in
theorem alike_any {K : Nat → Nat} {w : World} {B β y p m r x most : Nat} {L : List Pr} {A W : List As} {va vw : Value} (h : SD K w B β y p m r x most L L A W va vw) :
    Calls Try.prog 13 #[ptr y] w fun e w' => e = .returned (.bool true) ∧ Below w.heap.size w w' := by
  have HS : Hid (∀ w', Below w.heap.size w w' → SD (ext w K (fun _ => 3)) w' B β y p m r x most L L A W va vw) := fun w' hb => h.mv (Mv.of_below hb K (fun _ => 3)) id id id id id id
  have HL : Hid (ND L ∧ L.length ≤ 1048576 ∧ ∀ z ∈ L, KOk z.k) := by
    obtain ⟨Lt, e1, ts⟩ := h.sh
    subst e1
    refine ⟨ts.sh.nd', by rw [prs_len]; exact Nat.le_trans ts.sh.len ts.sh.m20, fun z hz => ?_⟩
    unfold prs at hz
    obtain ⟨t, ht, rfl⟩ := List.mem_map.1 hz
    exact ts.sh.ok t ht
  obtain ⟨n, hn⟩ : ∃ n, L.length = n := ⟨_, rfl⟩
  have HN := hid hn
  have HK : Hid (Calls Try.prog 45 #[ptr p] w fun e w' => ∃ g c, e = .returned (.slice (some ⟨g, 0, none⟩) n c) ∧ w'.ownsRow w.heap.size 32 2 (.slice (some ⟨g, 0, none⟩) n c) n (kcsK (L.map Pr.k)) ∧ Below w.heap.size w w') := by
    obtain ⟨Lt, e1, ts⟩ := h.sh
    have e2 : Lt.length = n := by rw [← hn, ← e1, prs_len]
    refine (keysK_any ts.sh).mono ?_
    rintro _ w' ⟨g, c, rfl, ho, hb⟩
    rw [e2] at ho ⊢
    exact ⟨g, c, rfl, by rw [← e1, prs_keys]; exact ho, hb⟩
  have HDK : Hid (∀ w', Below w.heap.size w w' → Calls Try.prog 46 #[ptr x] w' fun e w2 => ∃ oa c, e = .returned (.slice oa n c) ∧ w2.ownsRow w'.heap.size 32 2 (.slice oa n c) n (kcsK (L.map Pr.k)) ∧ Below w'.heap.size w' w2) := fun w' hb => by
    obtain ⟨vd, ds⟩ := (HS.out w' hb).ds
    refine (dkeys_any ds (by have := HL.out; omega)).mono ?_
    rintro _ w2 ⟨v, rfl, ho, hb2⟩
    rw [hn] at ho
    rcases ho.2 with ⟨e1, e2⟩ | ⟨g, c, cur, e1, _⟩
    · refine ⟨none, 0, by rw [e1, e2], ?_, hb2⟩
      rw [e1] at ho
      rw [e2] at ho ⊢
      exact ho
    · subst e1
      exact ⟨_, c, rfl, ho, hb2⟩
  have HLN : Hid (∀ w', Below w.heap.size w w' → Calls Try.prog 50 #[ptr p] w' fun e w2 => e = .returned (.int .i64 (n : Nat)) ∧ w2 = w') := fun w' hb => by
    obtain ⟨Lt, e1, ts⟩ := (HS.out w' hb).sh
    have e2 : Lt.length = n := by rw [← hn, ← e1, prs_len]
    have := lenK_any ts.sh
    rw [e2] at this
    exact this
  have HDL : Hid (∀ w', Below w.heap.size w w' → Calls Try.prog 51 #[ptr x] w' fun e w2 => e = .returned (.int .i64 (n : Nat)) ∧ w2 = w') := fun w' hb => by
    obtain ⟨vd, ds⟩ := (HS.out w' hb).ds
    have := dlen_any ds
    rw [hn] at this
    exact this
  have y0 := h.y0
  have y1 := h.y1
  clear h hn
  go_enter Try.func13, Try.ntmps13
  go_wp2_with fail
  refine HK.out.mono ?_
  rintro _ w1 ⟨g, c, rfl, ho1, hb1⟩
  have HB1 := hid hb1
  have HO1 := hid ho1
  have a1 := (HS.out w1 hb1).y1
  clear hb1 ho1 HK y0 y1
  go_wp2_with fail
  refine (HDK.out w1 HB1.out).mono ?_
  rintro _ w2 ⟨oa, c2, rfl, ho2, hb2⟩
  have HB2 : Hid (Below w.heap.size w w2) := HB1.out.trans (hb2.mono HB1.out.size)
  have HO2 : Hid (w2.ownsRow w.heap.size 32 2 (.slice (some ⟨g, 0, none⟩) n c) n (kcsK (L.map Pr.k))) := own_block HO1.out (fun b hb => hb2.block b (HO1.out.lt b hb).2)
  have HC : Hid (Calls Try.prog 47 #[.slice (some ⟨g, 0, none⟩) n c, .slice oa n c2] w2 fun e w' => e = .returned (.bool true) ∧ ∃ k, w' = w2.drewN k) := keys_same (by rw [List.length_map]; exact HN.out) HO2.out ho2 (by have := HL.out.2.1; have := HN.out; omega)
  clear ho2 hb2 HB1 HO1 a1
  go_wp2_with fail
  refine HC.out.mono ?_
  rintro _ w3 ⟨rfl, k, hw3⟩
  have HB3 : Hid (Below w.heap.size w w3) := by rw [hw3]; exact ⟨HB2.out.os, HB2.out.tape, HB2.out.output, HB2.out.size, HB2.out.block⟩
  have HO3 : Hid (w3.ownsRow w.heap.size 32 2 (.slice (some ⟨g, 0, none⟩) n c) n (kcsK (L.map Pr.k))) := by rw [hw3]; exact own_block HO2.out (fun b hb => rfl)
  have a0 := (HS.out w3 HB3.out).y0
  have a1 := (HS.out w3 HB3.out).y1
  have HQ1 : Hid (∀ i, Calls Try.prog 50 #[ptr p] (w3.drewN i) fun e w2 => e = .returned (.int .i64 (n : Nat)) ∧ w2 = w3.drewN i) := fun i => HLN.out _ ⟨HB3.out.os, HB3.out.tape, HB3.out.output, HB3.out.size, HB3.out.block⟩
  have HQ2 : Hid (∀ i, Calls Try.prog 51 #[ptr x] (w3.drewN i) fun e w2 => e = .returned (.int .i64 (n : Nat)) ∧ w2 = w3.drewN i) := fun i => HDL.out _ ⟨HB3.out.os, HB3.out.tape, HB3.out.output, HB3.out.size, HB3.out.block⟩
  have keq : ((n : Int) == (n : Int)) = true := by simp
  clear HC hw3 HB2 HO2 HLN HDL HDK
  go_wp2_with fail
  go_quiet (first | (go_at_call 50; exact Calls.quiet_of_same (HQ1.out _)) | (go_at_call 51; exact Calls.quiet_of_same (HQ2.out _)))
  go_wp2_with fail
  clear a0 a1
  go_loopw [5] (fun u5 wr => ∃ j : Nat, u5 = .int .i64 j ∧ j ≤ n ∧ Hid (Below w3.heap.size w3 wr)) (fun u5 _ => n - (intOf u5).toNat)
  case atStart => exact ⟨0, rfl, Nat.zero_le _, ⟨rfl, rfl, rfl, Nat.le_refl _, fun _ _ => rfl⟩⟩
  case round =>
    obtain ⟨j, rfl, hj, HBE⟩ := hrel
    obtain ⟨wo, hwo⟩ : ∃ yy, yy = wr := ⟨_, rfl⟩
    subst hwo
    by_cases hjn : j < n
    · have hj' : (j : Int) < (n : Int) := by omega
      have hj0 : (0 : Int) ≤ (j : Int) := by omega
      have hjb : (j : Int) ≤ 1048576 := by have := HL.out.2.1; have := HN.out; omega
      obtain ⟨z, hz⟩ : ∃ z, L[j]? = some z := ⟨_, List.getElem?_eq_getElem (by rw [HN.out]; exact hjn)⟩
      have HCE : Hid (∀ w', Below w3.heap.size w3 w' → w'.cell? ⟨y, 0, none⟩ = some (ptr p) ∧ w'.cell? ⟨y, 1, none⟩ = some (ptr x) ∧ w'.cell? ⟨g, j * 2, none⟩ = some (.string z.k.s) ∧ w'.cell? ⟨g, j * 2 + 1, none⟩ = some (.int .i64 z.k.n)) := fun w' hb => by
        have hb2 : Below w.heap.size w w' := HB3.out.trans (hb.mono HB3.out.size)
        have ho := own_block HO3.out (fun b hb' => hb.block b (HO3.out.lt b hb').2)
        have hg : ∀ k, k < 2 → (kcsK (L.map Pr.k))[j * 2 + k]? = (kcK z.k)[k]? := fun k hk => fm_get (cf := kcK) (sz := 2) (fun _ => rfl) (L.map Pr.k) j k z.k hk (by rw [List.getElem?_map, hz]; rfl)
        exact ⟨(HS.out w' hb2).y0, (HS.out w' hb2).y1, (ho.cellAt (j * 2) (by omega)).trans (hg 0 (by omega)), (ho.cellAt (j * 2 + 1) (by omega)).trans (hg 1 (by omega))⟩
      obtain ⟨gv, hgv⟩ : ∃ gv, getL L z.k = gv := ⟨_, rfl⟩
      obtain ⟨gh, hgh⟩ : ∃ gh, hasK L z.k = gh := ⟨_, rfl⟩
      have HC1 : Hid (∀ w', Below w3.heap.size w3 w' → ∀ i, Calls Try.prog 41 #[ptr p, keyV z.k] (w'.drewN i) fun e w2 => e = .returned (.tuple #[.int .i64 gv, .bool gh]) ∧ Hid (Below w3.heap.size w3 w2)) := fun w' hb i => by
        have hb1 : Below w3.heap.size w3 (w'.drewN i) := ⟨hb.os, hb.tape, hb.output, hb.size, hb.block⟩
        have hb2 : Below w.heap.size w (w'.drewN i) := HB3.out.trans (hb1.mono HB3.out.size)
        obtain ⟨Lt, e1, ts⟩ := (HS.out _ hb2).sh
        refine (getK_any ts.sh z.k (HL.out.2.2 z (List.mem_of_getElem? hz))).mono ?_
        rintro _ w2 ⟨rfl, hbb⟩
        rw [e1, hgv, hgh]
        exact ⟨rfl, hb1.trans (hbb.mono hb1.size)⟩
      have HC2 : Hid (∀ w', Below w3.heap.size w3 w' → ∀ i, Calls Try.prog 42 #[ptr x, keyV z.k] (w'.drewN i) fun e w2 => e = .returned (.tuple #[.int .i64 gv, .bool gh]) ∧ Hid (Below w3.heap.size w3 w2)) := fun w' hb i => by
        have hb1 : Below w3.heap.size w3 (w'.drewN i) := ⟨hb.os, hb.tape, hb.output, hb.size, hb.block⟩
        have hb2 : Below w.heap.size w (w'.drewN i) := HB3.out.trans (hb1.mono HB3.out.size)
        obtain ⟨vd, ds⟩ := (HS.out _ hb2).ds
        refine (dget_any ds (by have := HL.out; omega) z.k).mono ?_
        rintro _ w2 ⟨u, b, rfl, hr, hbb⟩
        obtain ⟨rfl, rfl⟩ := getP_is hr HL.out.1
        rw [hgv, hgh]
        exact ⟨rfl, hb1.trans (hbb.mono hb1.size)⟩
      have HCA := hid (HC1.out wo HBE.out)
      have s0 := HCE.out wo HBE.out
      have s1 : ∀ i, (wo.drewN i).cell? ⟨y, 0, none⟩ = some (ptr p) ∧ (wo.drewN i).cell? ⟨y, 1, none⟩ = some (ptr x) ∧ (wo.drewN i).cell? ⟨g, j * 2, none⟩ = some (.string z.k.s) ∧ (wo.drewN i).cell? ⟨g, j * 2 + 1, none⟩ = some (.int .i64 z.k.n) := fun _ => s0
      have keq2 : (gv == gv) = true := by simp
      have kqb : (gh == gh) = true := by simp
      have HJ := hid hjn
      clear hz hgv hgh HC1 HBE hjn hj HS HL HN HO3 HB3 HQ1 HQ2
      go_wp2_with fail
      go_region_held3 (fun w' => w'.cell? ⟨y, 0, none⟩ = some (ptr p) ∧ w'.cell? ⟨y, 1, none⟩ = some (ptr x) ∧ w'.cell? ⟨g, j * 2, none⟩ = some (.string z.k.s) ∧ w'.cell? ⟨g, j * 2 + 1, none⟩ = some (.int .i64 z.k.n)) (first | with_reducible exact s0 | with_reducible exact s1 _ | with_reducible exact s7 | exact s0) (first
        | (go_at_call 41
           refine (HCA.out _).mono ?_
           rintro _ w6 ⟨rfl, HBw6⟩
           have s7 : w6.cell? ⟨y, 0, none⟩ = some (ptr p) ∧ w6.cell? ⟨y, 1, none⟩ = some (ptr x) ∧ w6.cell? ⟨g, j * 2, none⟩ = some (.string z.k.s) ∧ w6.cell? ⟨g, j * 2 + 1, none⟩ = some (.int .i64 z.k.n) := HCE.out w6 HBw6.out))
      have HCB := hid (HC2.out w6 HBw6.out)
      have t0 := s7
      have t1 : ∀ i, (w6.drewN i).cell? ⟨y, 0, none⟩ = some (ptr p) ∧ (w6.drewN i).cell? ⟨y, 1, none⟩ = some (ptr x) ∧ (w6.drewN i).cell? ⟨g, j * 2, none⟩ = some (.string z.k.s) ∧ (w6.drewN i).cell? ⟨g, j * 2 + 1, none⟩ = some (.int .i64 z.k.n) := fun _ => t0
      clear s0 s1 s7 HCA HC2
      go_wp2_with fail
      go_region_held3 (fun w' => w'.cell? ⟨y, 0, none⟩ = some (ptr p) ∧ w'.cell? ⟨y, 1, none⟩ = some (ptr x) ∧ w'.cell? ⟨g, j * 2, none⟩ = some (.string z.k.s) ∧ w'.cell? ⟨g, j * 2 + 1, none⟩ = some (.int .i64 z.k.n)) (first | with_reducible exact t0 | with_reducible exact t1 _ | with_reducible exact s7 | exact t0) (first
        | (go_at_call 42
           refine (HCB.out _).mono ?_
           rintro _ w8 ⟨rfl, HBw8⟩
           have s7 : w8.cell? ⟨y, 0, none⟩ = some (ptr p) ∧ w8.cell? ⟨y, 1, none⟩ = some (ptr x) ∧ w8.cell? ⟨g, j * 2, none⟩ = some (.string z.k.s) ∧ w8.cell? ⟨g, j * 2 + 1, none⟩ = some (.int .i64 z.k.n) := HCE.out w8 HBw8.out))
      clear t0 t1 s7 HCB HCE
      go_wp2
      go_roundw
      case rel => exact ⟨j + 1, by first | rfl | (rw [wrapS (j := j) (by omega)]; rfl), HJ.out, HBw8.out⟩
      case measure => first | exact meas6 rfl HJ.out | exact meas6 (wrapS (j := j) (by omega)) HJ.out
    · obtain rfl : j = n := by omega
      have HE : Hid (Below w.heap.size w wo) := HB3.out.trans (HBE.out.mono HB3.out.size)
      clear HBE HS HL HO3 HB3 HQ1 HQ2
      go_wp2
      go_ret
      exact ⟨rfl, HE.out⟩
end Go.Proofs.Ytkkamilmjaochaa
