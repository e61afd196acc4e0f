/- AirPlays: still, walked. -/
import Derived.Test.YtlnaejhdnbmmjaaPgH
import Derived.Deep.CutBlock
import Derived.Deep.DeepCutAuto
namespace Go.Proofs.Ytlnaejhdnbmmjaa
open Go.RowKit
def lenV : Value → Nat
  | .slice _ n _ => n
  | _ => 0
def LVf (FL : List Value) (j : Nat) : Value := FL.getD j (.slice none 0 0)
def NVf (FL : List Value) (j : Nat) : Nat := lenV (LVf FL j)
/-- the free lists, put into lists -/
theorem lists_run {w : World} {B n : Nat} {vf : Value} {FL : List Value} (h : w.ownsRow B 43 1 vf n FL) (hn : n ≤ 10000000000) :
    ∃ gla gl cl w', (∀ ty, (Builtin.append_ #[32, 32] ty #[.slice none 0 0, vf]).run Try.prog w = .ok (.slice gla n cl) w') ∧ (0 < n → gla = some ⟨gl, 0, none⟩ ∧ w.heap.size ≤ gl ∧ gl < w'.heap.size) ∧ (∀ j u, FL[j]? = some u → w'.cell? ⟨gl, j, none⟩ = some u) ∧ Below w.heap.size w w' := by
  obtain ⟨i, hi, hz, hs, hby⟩ := info43_ex
  have hlen : FL.length = n := by simpa using h.1
  rcases h.2 with ⟨rfl, rfl⟩ | ⟨g, c, cur, rfl, hb, hg, hnc, hcm, hcs, htake⟩
  · obtain rfl := List.eq_nil_of_length_eq_zero hlen
    refine ⟨none, 0, 0, w, fun ty => ?_, fun h => by omega, fun j u hu => by simp at hu, Below.refl _ _⟩
    simp [Builtin.append_, run_underlying Try.underlying32, sizeOf, typeInfo, hi, Builtin.lenOf, Builtin.firstCells]
  · rcases Nat.eq_zero_or_pos n with h0 | h0
    · subst h0
      obtain rfl := List.eq_nil_of_length_eq_zero hlen
      refine ⟨none, 0, 0, w, fun ty => ?_, fun h => by omega, fun j u hu => by simp at hu, Below.refl _ _⟩
      simp [Builtin.append_, run_underlying Try.underlying32, sizeOf, typeInfo, hi, Builtin.lenOf, Builtin.firstCells, loadCells, loadCellsFrom]
    · have hr := fun ty => run_append_nil (P := Try.prog) w 32 ty 43 i _ Try.underlying32 hi hz ⟨g, 0, none⟩ n c FL (by rw [hs]; omega) (h.cells (g := g) rfl) h0 (by omega) (by rw [hby]; omega)
      refine ⟨_, w.heap.size, _, _, hr, fun _ => ⟨rfl, Nat.le_refl _, by simp⟩, fun j u hu => ?_, ⟨rfl, rfl, rfl, by simp, fun k hk => Below.heap_alloc w.drew _ k hk⟩⟩
      have hj := (List.getElem?_eq_some_iff.1 hu).1
      have hnew := heap_alloc_new w.drew (.cells (FL.toArray ++ Builtin.zeroCells (Value.slice none 0 0).cells (grownCap w n 0 43 - n)) 43)
      unfold World.cell?
      rw [show (w.drew.alloc (.cells (FL.toArray ++ Builtin.zeroCells (Value.slice none 0 0).cells (grownCap w n 0 43 - n)) 43)).heap[w.heap.size]? = _ from hnew]
      show (FL.toArray ++ _)[j]? = some u
      rw [Array.getElem?_append_left (by simpa using hj)]
      simpa using hu
section
variable {K : Nat → Nat} {w : World} {B bb n nf nw : Nat} {vf vw : Value} {FL WL : List Value}
theorem BK.fl (h : BK K w B bb n n n vf vw FL WL) {j : Nat} (hj : j < n) : FL[j]? = some (LVf FL j) ∧ MR K w B j (LVf FL j) (NVf FL j) 0 := by
  obtain ⟨v, u, l, e1, e2, e3, e4⟩ := h.ent j hj
  have e : LVf FL j = v := by unfold LVf; simp [List.getD, e1]
  unfold NVf
  rw [e]
  refine ⟨e1, ?_⟩
  have hm := e3.mr
  obtain ⟨_, oa, c, hv, _⟩ := e3
  rw [show lenV v = l.length by rw [hv]; rfl]
  exact hm
/-- the book is empty but for its lists -/
theorem BK.lists {w1 w2 : World} {gla : Option Addr} {gl cl : Nat} (h : BK K w B bb n n n vf vw FL WL) (hw : Below w.heap.size w w1) (hg : 0 < n → gla = some ⟨gl, 0, none⟩ ∧ w1.heap.size ≤ gl ∧ gl < w2.heap.size) (hc : ∀ j u, FL[j]? = some u → w2.cell? ⟨gl, j, none⟩ = some u) (hB : Below w1.heap.size w1 w2) :
    (w2.cell? ⟨bb, 2, none⟩ = some (.slice none 0 0) ∧ w2.frozen? ⟨bb, 2, none⟩ = false) ∧ (w2.cell? ⟨bb, 0, none⟩ = some vf ∧ w2.cell? ⟨bb, 1, none⟩ = some vw ∧ w2.frozen? ⟨bb, 0, none⟩ = false ∧ w2.frozen? ⟨bb, 1, none⟩ = false) ∧
    ∃ K', LB K w K' (((w2.setCell ⟨bb, 2, none⟩ (.slice gla n cl)).setCell ⟨bb, 0, none⟩ (.slice none 0 0)).setCell ⟨bb, 1, none⟩ (.slice none 0 0)) B bb n gla gl cl (LVf FL) (NVf FL) (.slice none 0 0) (.slice none 0 0) ∧
      ∀ j, j < n → MR K' (((w2.setCell ⟨bb, 2, none⟩ (.slice gla n cl)).setCell ⟨bb, 0, none⟩ (.slice none 0 0)).setCell ⟨bb, 1, none⟩ (.slice none 0 0)) B j (LVf FL j) (NVf FL j) 0 := by
  have hB2 : Below w.heap.size w w2 := hw.trans (hB.mono hw.size)
  have hbb := hB2.block bb h.lt
  have m2 : Mv (fun t => t = 1) w (((w2.setCell ⟨bb, 2, none⟩ (.slice gla n cl)).setCell ⟨bb, 0, none⟩ (.slice none 0 0)).setCell ⟨bb, 1, none⟩ (.slice none 0 0)) K (ext w K (fun _ => 8)) := ⟨hB2.os, hB2.tape, hB2.output, by simpa using hB2.size, fun _ hb => ext_old hb, fun k hk ht => by
    have hkb : k ≠ bb := fun e => ht (by rw [e]; exact h.kb)
    rw [Below.heap_setCell _ _ _ k hkb, Below.heap_setCell _ _ _ k hkb, Below.heap_setCell _ _ _ k hkb]
    exact hB2.block k hk⟩
  have hlt := h.lt
  have hs := hw.size
  refine ⟨⟨?_, (World.frozen?_of_block (a := ⟨bb, 2, none⟩) hbb).trans (h.fz 2)⟩, ⟨(World.cell?_of_block (a := ⟨bb, 0, none⟩) hbb).trans h.c0, (World.cell?_of_block (a := ⟨bb, 1, none⟩) hbb).trans h.c1, (World.frozen?_of_block (a := ⟨bb, 0, none⟩) hbb).trans (h.fz 0), (World.frozen?_of_block (a := ⟨bb, 1, none⟩) hbb).trans (h.fz 1)⟩, _, ⟨(heap_set5 (heap_set5 (heap_set5 (hbb.trans h.blk) _).2.2.1 _).1 _).2.1, (m2.old bb h.lt).trans h.kb, fun h0 => ?_, fun j hj => ?_, m2.mono (fun t ht => by omega), Nat.le_trans h.hB m2.size⟩, fun j hj => (h.fl hj).2.mv m2 (by omega)⟩
  · unfold World.cell?; rw [hbb, h.blk]; rfl
  · obtain ⟨e1, e2, e3⟩ := hg h0
    exact ⟨e1, ext_new (by omega), by simpa using e3⟩
  · obtain ⟨e1, e2, e3⟩ := hg (by omega)
    have hne : gl ≠ bb := by omega
    rw [World.cell?_setCell_other _ _ _ _ (by intro e; injection e; omega), World.cell?_setCell_other _ _ _ _ (by intro e; injection e; omega), World.cell?_setCell_other _ _ _ _ (by intro e; injection e; omega)]
    exact hc j _ (h.fl hj).1
end

set_option maxRecDepth 4000 in
set_option maxHeartbeats 8000000 in
theorem still_any {K : Nat → Nat} {w : World} {B bb n : Nat} {vf vw : Value} {FL WL : List Value} (h : BK K w B bb n n n vf vw FL WL) (hn : n ≤ 10000000000) :
    Calls Try.prog 11 #[.pointer (some ⟨bb, 0, none⟩)] w fun e w' => e = .returned (.bool true) ∧ ∃ K', Mv (fun t => t ≠ 0) w w' K K' := by
  have HBK := hid h
  have HN := hid hn
  obtain ⟨fa, fc, hvf⟩ : ∃ a c, vf = .slice a n c := by
    rcases h.f.2 with ⟨e, e2⟩ | ⟨g2, c2, cur, e, _⟩
    · exact ⟨none, 0, by rw [e, e2]⟩
    · exact ⟨_, c2, e⟩
  obtain ⟨wa, wc, hvw⟩ : ∃ a c, vw = .slice a n c := by
    rcases h.g.2 with ⟨e, e2⟩ | ⟨g2, c2, cur, e, _⟩
    · exact ⟨none, 0, by rw [e, e2]⟩
    · exact ⟨_, c2, e⟩
  subst hvf hvw
  have hni : (n : Int) ≤ 10000000000 := by omega
  have HNI := hid hni
  clear h hn hni
  go_enter Try.func11, Try.ntmps11
  go_wp2_with fail
  go_loopw [3] (fun i wr => ∃ k m : Nat, i = .int .i64 k ∧ k ≤ n ∧ Hid (wr = w.drewN m)) (fun i _ => n - (intOf i).toNat)
  case atStart => exact ⟨0, 0, rfl, by omega, rfl⟩
  case round =>
    obtain ⟨k, m, rfl, hk, HW⟩ := hrel
    have B1 : Below w.heap.size w wr := by rw [HW.out]; exact below_drew (Below.refl _ _) m
    have hb := HBK.out.mv (Mv.of_below B1 K (fun _ => 0)) id id id id (fun _ => id)
    have q0 := hb.c0
    have q1 := hb.c1
    by_cases hlt : k < n
    · as_aux_lemma =>
      obtain ⟨v, u, l, e1, e2, e3, e4⟩ := hb.ent k hlt
      obtain ⟨gf, cf, ef, -, -⟩ := hb.f.form (by omega)
      obtain ⟨gw, cw, ew, -, -⟩ := hb.g.form (by omega)
      injection ef with ef1 _ ef2
      injection ew with ew1 _ ew2
      subst ef1 ef2 ew1 ew2
      have r0 := hb.f.cells (g := gf) rfl k v e1
      have r1 := hb.g.cells (g := gw) rfl k u e2
      rw [Addr.add_lit, Nat.zero_add] at r0 r1
      have HSm : Hid (∀ m', Calls Try.prog 16 #[v, u] (wr.drewN m') fun e w'' => e = .returned (.bool true) ∧ ∃ m, w'' = wr.drewN m) := fun m' => by
        have := same_any l l v u (wr.drewN m') (e3.row.below (below_drew (Below.refl _ _) m')) (e4.row.below (below_drew (Below.refl _ _) m')) (by have := e3.1; omega)
        rw [decide_eq_true rfl] at this
        exact this.mono fun e w' ⟨h1, m2, h2⟩ => ⟨h1, m' + m2, by rw [h2]; exact World.drewN_drewN _ _ _⟩
      have hk' : (k : Int) < (n : Int) := by omega
      have hni := HNI.out
      obtain ⟨va, vn, vc, hv⟩ : ∃ a n c, v = .slice a n c := by obtain ⟨_, oa, c, e, _⟩ := e3; exact ⟨_, _, _, e⟩
      obtain ⟨ua, un, uc, hu⟩ : ∃ a n c, u = .slice a n c := by obtain ⟨oa, c, _, e, _⟩ := e4; exact ⟨_, _, _, e⟩
      subst hv hu
      clear hb e1 e2 e3 e4 B1
      go_wp2_with fail
      go_quiet (first | (go_at_call 16; with_reducible exact HSm.out _))
      go_wp2
      go_roundw
      case rel => exact ⟨k + 1, _, by go_num, by omega, (by show _ = _; rw [HW.out]; exact World.drewN_drewN _ _ _)⟩
      case measure => simp [intOf]; omega
    · obtain rfl : k = n := by omega
      have q2 : wr.cell? ⟨bb, 2, none⟩ = some (.slice none 0 0) := by unfold World.cell?; rw [hb.blk]; rfl
      obtain ⟨gla, gl, cl, w2, hr2, hg2, hc2, hB2⟩ := lists_run (w := wr.drew) hb.f HN.out
      obtain ⟨hz2, hz0, K3, hLB, hMR⟩ := HBK.out.lists (w1 := wr.drew) (cl := cl) B1.drew hg2 hc2 hB2
      obtain ⟨w3, hw3⟩ : ∃ y, ((w2.setCell ⟨bb, 2, none⟩ (.slice gla k cl)).setCell ⟨bb, 0, none⟩ (.slice none 0 0)).setCell ⟨bb, 1, none⟩ (.slice none 0 0) = y := ⟨_, rfl⟩
      rw [hw3] at hLB hMR
      have HR2 := hid (hr2 32)
      have z2 := hz2.1
      have zf2 := hz2.2
      have z0 := hz0.1
      have z1 := hz0.2.1
      have zf0 := hz0.2.2.1
      have zf1 := hz0.2.2.2
      have HL := hid hLB
      have HM := hid hMR
      clear hb hr2 hg2 hc2 hB2 hz2 hz0 hLB hMR B1 q1
      go_wp2_with fail
      go_cut [5] from 41 (fun s wx => s = .int .i64 0 ∧ Hid (wx = w2.setCell ⟨bb, 2, none⟩ (.slice gla k cl)))
      case first =>
        clear hw3
        go_region_law (first | (refine step_app rfl (.tmp 50) (.tmp 54) 32 rfl (.slice none 0 0) (.slice fa k fc) _ _ (by go_simp) (by go_simp) HR2.out ?_))
        all_goals (
          go_wp2_with fail
          go_meet
          exact ⟨rfl, rfl⟩)
      case rest =>
        obtain ⟨hv5, HWC⟩ := hcut
        subst hv5
        have hwc := HWC.out
        subst hwc
        clear q0 q2 HWC
        go_wp2_with fail
        clear hw3 z0 z1 z2 zf0 zf1 zf2
        have hni := HNI.out
        go_loopw [6] (fun iv wr2 => ∃ (i : Nat) (K' : Nat → Nat), iv = .int .i64 i ∧ i ≤ k ∧ Hid (LB K w K' wr2 B bb k gla gl cl (LVf FL) (NVf FL) (.slice none 0 0) (.slice none 0 0) ∧ ∀ j, j < k → MR K' wr2 B j (LVf FL j) (NVf FL j) (if j < i then NVf FL j else 0))) (fun iv _ => k - (intOf iv).toNat)
        case atStart => exact ⟨0, K3, rfl, by omega, HL.out, fun j hj => by rw [if_neg (by omega)]; exact HM.out j hj⟩
        case round =>
          obtain ⟨i, K', rfl, hi, HA⟩ := hrel
          obtain ⟨wo, hwo⟩ : ∃ y, y = wr := ⟨_, rfl⟩
          rw [← hwo] at HA ⊢
          clear hwo
          have p2 := HA.out.1.c.1
          by_cases hlt2 : i < k
          · as_aux_lemma =>
            have hi' : (i : Int) < (k : Int) := by omega
            obtain ⟨eg, -, -⟩ := HA.out.1.gla (by omega)
            subst eg
            have pl := HA.out.1.cell i hlt2
            obtain ⟨hN, -, E, C, hv, -⟩ := HA.out.2 i hlt2
            have HV := hid hv
            rw [hv] at pl
            obtain ⟨N, hNN⟩ : ∃ N, NVf FL i = N := ⟨_, rfl⟩
            rw [hNN] at pl HV hN
            have HNN := hid hNN
            clear hv hNN
            have hNi : (N : Int) ≤ 1000000 := by omega
            clear hN
            go_wp2_with fail
            go_loopw [7] (fun kv wr3 => ∃ kk : Nat, kv = .int .i64 kk ∧ kk ≤ N ∧ Hid (LB K w K' wr3 B bb k (some ⟨gl, 0, none⟩) gl cl (LVf FL) (NVf FL) (.slice none 0 0) (.slice none 0 0) ∧ ∀ j, j < k → MR K' wr3 B j (LVf FL j) (NVf FL j) (if j < i then NVf FL j else if j = i then kk else 0))) (fun kv _ => N - (intOf kv).toNat)
            case atStart =>
              refine ⟨0, rfl, by omega, HA.out.1, fun j hj => ?_⟩
              have := HA.out.2 j hj
              by_cases e1 : j < i
              · rw [if_pos e1] at this ⊢; exact this
              · rw [if_neg e1] at this ⊢
                by_cases e2 : j = i
                · rw [if_pos e2]; exact this
                · rw [if_neg e2]; exact this
            case round =>
              obtain ⟨kk, rfl, hkk, HI⟩ := hrel
              clear p2 pl
              have p2 := HI.out.1.c.1
              have pl := HI.out.1.cell i hlt2
              rw [HV.out] at pl
              by_cases hkN : kk < N
              · have hkk' : (kk : Int) < (N : Int) := by omega
                have hmr := HI.out.2 i hlt2
                rw [if_neg (Nat.lt_irrefl _), if_pos rfl] at hmr
                obtain ⟨g, c, hv2, hKg, hgl, hcells, hmv, hmr2⟩ := hmr.mark (by rw [HNN.out]; exact hkN)
                rw [HV.out, HNN.out] at hv2
                injection hv2 with e1 _ e2
                subst e1 e2
                obtain ⟨⟨u0, x0⟩, f0⟩ := hcells 0 (by omega)
                obtain ⟨⟨u1, x1⟩, f1⟩ := hcells 1 (by omega)
                obtain ⟨⟨u2, x2⟩, f2⟩ := hcells 2 (by omega)
                rw [Nat.add_zero] at x0 f0
                have HR : Hid (LB K w K' (((wr.setCell ⟨g, kk * 3, none⟩ (.int .i64 (-1 - (i : Int)))).setCell ⟨g, kk * 3 + 1, none⟩ (.int .i64 0)).setCell ⟨g, kk * 3 + 2, none⟩ (.string ⟨#[]⟩)) B bb k (some ⟨gl, 0, none⟩) gl cl (LVf FL) (NVf FL) (.slice none 0 0) (.slice none 0 0) ∧ ∀ j, j < k → MR K' (((wr.setCell ⟨g, kk * 3, none⟩ (.int .i64 (-1 - (i : Int)))).setCell ⟨g, kk * 3 + 1, none⟩ (.int .i64 0)).setCell ⟨g, kk * 3 + 2, none⟩ (.string ⟨#[]⟩)) B j (LVf FL j) (NVf FL j) (if j < i then NVf FL j else if j = i then kk + 1 else 0)) := by
                  refine ⟨HI.out.1.to hmv (by omega) (by omega) (by omega), fun j hj => ?_⟩
                  by_cases e2 : j = i
                  · subst e2
                    rw [if_neg (Nat.lt_irrefl _), if_pos rfl]; exact hmr2
                  · have := (HI.out.2 j hj).mv hmv (by omega)
                    rw [if_neg e2] at this ⊢; exact this
                clear hmr hKg hgl hcells hmv hmr2
                go_wp2
                go_roundw
                case rel => exact ⟨kk + 1, by go_num, by omega, HR.out⟩
                case measure => simp [intOf]; omega
              · obtain rfl : kk = N := by omega
                have HR : Hid (LB K w K' wr B bb k (some ⟨gl, 0, none⟩) gl cl (LVf FL) (NVf FL) (.slice none 0 0) (.slice none 0 0) ∧ ∀ j, j < k → MR K' wr B j (LVf FL j) (NVf FL j) (if j < i + 1 then NVf FL j else 0)) := by
                  refine ⟨HI.out.1, fun j hj => ?_⟩
                  have := HI.out.2 j hj
                  by_cases e1 : j < i
                  · rw [if_pos e1] at this; rw [if_pos (by omega)]; exact this
                  · rw [if_neg e1] at this
                    by_cases e2 : j = i
                    · rw [if_pos e2] at this
                      rw [if_pos (by omega)]
                      subst e2
                      rw [HNN.out] at this ⊢; exact this
                    · rw [if_neg e2] at this
                      rw [if_neg (by omega)]; exact this
                go_wp2
                go_roundw
                case rel => exact ⟨i + 1, K', by go_num, by omega, HR.out⟩
                case measure => simp [intOf]; omega
          · obtain rfl : i = k := by omega
            have HQ : Hid (PQ K w K' wo B bb i gla gl cl (LVf FL) (NVf FL) 0 [] (.slice none 0 0) (.slice none 0 0)) := by
              have hall : ∀ j, j < i → MR K' wo B j (LVf FL j) (NVf FL j) (NVf FL j) := fun j hj => by
                have := HA.out.2 j hj
                rwa [if_pos hj] at this
              exact ⟨HA.out.1, fun j hj => (hall j hj).me, fun j _ hj => hall j hj, World.ownsRow_nil _ _ _ _, fun r e => by simp [Value.ownBlock] at e, World.ownsRow_nil _ _ _ _, fun r e => by simp [Value.ownBlock] at e, fun t ht => by omega⟩
            have HLN : Hid (∀ j, j < i → NVf FL j ≤ 1000) := fun j hj => (HA.out.2 j hj).1
            clear HA HL HM hi hlt2
            go_wp2_with fail
            clear p2
            go_loopw [8] (fun iv wr2 => ∃ (a : Nat) (K' : Nat → Nat) (GL : List Value) (vg vh : Value), iv = .int .i64 a ∧ a ≤ i ∧ Hid (PQ K w K' wr2 B bb i gla gl cl (LVf FL) (NVf FL) a GL vg vh)) (fun iv _ => i - (intOf iv).toNat)
            case atStart => exact ⟨0, _, _, _, _, rfl, by omega, HQ.out⟩
            case round =>
              obtain ⟨a, K4, GL, vg, vh, rfl, ha, HB⟩ := hrel
              obtain ⟨wp, hwp⟩ : ∃ y, y = wr := ⟨_, rfl⟩
              rw [← hwp] at HB ⊢
              clear hwp HQ
              have p2 := HB.out.lb.c.1
              by_cases hlt2 : a < i
              · as_aux_lemma =>
                have ha' : (a : Int) < (i : Int) := by omega
                obtain ⟨eg, -, -⟩ := HB.out.lb.gla (by omega)
                subst eg
                have pl := HB.out.lb.cell a hlt2
                obtain ⟨-, E, C, hv, -⟩ := HB.out.lst a hlt2
                rw [hv] at pl
                have HP0 : Hid (PB K w K4 wp B bb i (some ⟨gl, 0, none⟩) gl cl (LVf FL) (NVf FL) (5 * a) (5 * a) a (.slice E (NVf FL a) C) (NVf FL a) GL vg vh) := by
                  have := HB.out.begin hlt2
                  rwa [hv] at this
                obtain ⟨N, hNN⟩ : ∃ N, NVf FL a = N := ⟨_, rfl⟩
                have HN1 : Hid (N ≤ 1000) := by rw [← hNN]; exact HLN.out a hlt2
                rw [hNN] at pl HP0
                clear hv hNN HB
                go_wp2_with fail
                clear p2 pl
                go_loopw [9, 10] (fun xv kv wr3 => ∃ (kk nx : Nat) (K5 : Nat → Nat) (x : Value) (GL : List Value) (vg vh : Value), xv = x ∧ kv = .int .i64 kk ∧ kk ≤ 5 ∧ Hid (nx = N + kk ∧ PB K w K5 wr3 B bb i (some ⟨gl, 0, none⟩) gl cl (LVf FL) (NVf FL) (5 * a + kk) (5 * a + kk) a x nx GL vg vh)) (fun _ kv _ => 5 - (intOf kv).toNat)
                case atStart => exact ⟨0, N, _, _, _, _, _, rfl, rfl, by omega, rfl, HP0.out⟩
                case round =>
                  obtain ⟨kk, nx, K5, x, GL1, vg1, vh1, hxv, rfl, hkk, HI⟩ := hrel
                  have hxv2 := hxv.symm
                  clear hxv
                  subst hxv2
                  obtain ⟨wq, hwq⟩ : ∃ y, y = wr := ⟨_, rfl⟩
                  rw [← hwq] at HI ⊢
                  clear hwq
                  by_cases hk5 : kk < 5
                  · have hkk' : (kk : Int) < 5 := by omega
                    obtain ⟨xa, xc, hx⟩ : ∃ a c, x = .slice a nx c := by
                      rcases HI.out.2.x with ⟨h0, oa, e⟩ | ⟨g, c, e, _⟩
                      · exact ⟨oa, 0, by rw [e, h0]⟩
                      · exact ⟨_, c, e⟩
                    subst hx
                    have hnx : nx ≤ 1005 := by have := HI.out.1; have := HN1.out; omega
                    have hTT : 5 * a + kk ≤ 1000000000000 := by have := HN.out; omega
                    have hTd : (5 * a + kk) / 5 = a := by omega
                    obtain ⟨w5, hw5⟩ : ∃ y, wq.alloc (.cells #[.int .i64 (-1 - (a : Int)), .int .i64 0, .string ⟨#[]⟩] 37) = y := ⟨_, rfl⟩
                    have B5 : Below wq.heap.size wq w5 := by rw [← hw5]; exact below_new _ _
                    have hk5b : PkAt w5 wq.heap.size 0 [mkP a] := by rw [← hw5]; exact PkAt.block1 (x := mkP a) (heap_alloc_new wq _)
                    have P5 := HI.out.2.mv (Mv.of_below B5 K5 (fun _ => 0)) id id id id id (fun _ => id)
                    obtain ⟨g6, c6, w6, K6, hr6, P6⟩ := P5.grow hk5b (by omega)
                    have HR6 := hid hr6
                    have v3 := P6.lb.c.2.1
                    obtain ⟨w7, hw7⟩ : ∃ y, w6.alloc (.cells #[.slice (some ⟨g6, 0, none⟩) (nx + 1) c6] 43) = y := ⟨_, rfl⟩
                    have B7 : Below w6.heap.size w6 w7 := by rw [← hw7]; exact below_new _ _
                    have hk7 : w7.heap[w6.heap.size]? = some (.cells #[.slice (some ⟨g6, 0, none⟩) (nx + 1) c6] 43 (0, 0)) := by rw [← hw7]; exact heap_alloc_new _ _
                    have P7 := P6.mv (Mv.of_below B7 K6 (fun _ => 0)) id id id id id (fun _ => id)
                    obtain ⟨g8, c8, w8, hr8, hc8, K9, P9⟩ := P7.put hTd (by omega) hTT hk7
                    have HR8 := hid hr8
                    obtain ⟨w9, hw9⟩ : ∃ y, w8.setCell ⟨bb, 3, none⟩ (.slice (some ⟨g8, 0, none⟩) (5 * a + kk + 1) c8) = y := ⟨_, rfl⟩
                    rw [hw9] at P9
                    have v4 := P9.lb.c.2.2
                    obtain ⟨w10, hw10⟩ : ∃ y, w9.alloc (.cells #[.int .i64 (a : Int)] 3) = y := ⟨_, rfl⟩
                    have B10 : Below w9.heap.size w9 w10 := by rw [← hw10]; exact below_new _ _
                    have hk10 : w10.heap[w9.heap.size]? = some (.cells #[.int .i64 (a : Int)] 3 (0, 0)) := by rw [← hw10]; exact heap_alloc_new _ _
                    have P10 := P9.mv (Mv.of_below B10 K9 (fun _ => 0)) id id id id id (fun _ => id)
                    obtain ⟨g11, c11, w11, hr11, hc11, K12, P12⟩ := P10.who hTd hTT hk10
                    have HR11 := hid hr11
                    obtain ⟨w12, hw12⟩ : ∃ y, w11.setCell ⟨bb, 4, none⟩ (.slice (some ⟨g11, 0, none⟩) (5 * a + kk + 1) c11) = y := ⟨_, rfl⟩
                    rw [hw12] at P12
                    have HP12 := hid P12
                    have z3 := hc8.1
                    have zf3 := hc8.2
                    have z4 := hc11.1
                    have zf4 := hc11.2
                    have HNX := hid HI.out.1
                    obtain ⟨ga, gc, hvg⟩ : ∃ o c, vg1 = .slice o (5 * a + kk) c := by
                      rcases HI.out.2.g.2 with ⟨e, e2⟩ | ⟨g2, c2, cur, e, _⟩
                      · exact ⟨none, 0, by rw [e, e2]⟩
                      · exact ⟨_, c2, e⟩
                    obtain ⟨ha2, hc2, hvh⟩ : ∃ o c, vh1 = .slice o (5 * a + kk) c := by
                      rcases HI.out.2.h.2 with ⟨e, e2⟩ | ⟨g2, c2, cur, e, _⟩
                      · exact ⟨none, 0, by rw [e, e2]⟩
                      · exact ⟨_, c2, e⟩
                    subst hvg hvh
                    clear hnx hTT hTd B5 hk5b P5 hr6 P6 B7 hk7 P7 hr8 hc8 P9 B10 hk10 P10 hr11 hc11 P12 HI HP0
                    generalize hTT0 : 5 * a + kk = TT at *
                    have HTT := hid hTT0
                    clear hTT0
                    go_wp2_with (at_builtin; refine Hid.out ?_)
                    refine (show Hid _ from ?_)
                    refine wpList_app rfl _ _ 43 rfl _ _ _ _ rfl rfl (HR6.out _) ?_
                    clear hw5
                    go_wp2_with (at_builtin; refine Hid.out ?_)
                    refine (show Hid _ from ?_)
                    refine wpList_app rfl _ _ 32 rfl _ _ _ _ rfl rfl (HR8.out _) ?_
                    clear hw7 v3
                    go_wp2_with (at_builtin; refine Hid.out ?_)
                    refine (show Hid _ from ?_)
                    refine wpList_app rfl _ _ 33 rfl _ _ _ _ rfl rfl (HR11.out _) ?_
                    clear hw9 hw10 v4 z3 zf3
                    go_wp2_with fail
                    clear hw12 z4 zf4
                    go_roundw
                    case rel =>
                      have hP := HP12.out
                      rw [← HTT.out] at hP
                      exact ⟨kk + 1, nx + 1, K12, _, _, _, _, rfl, by go_num, by omega, (by have := HNX.out; omega), hP⟩
                    case measure => simp [intOf]; omega
                  · obtain rfl : kk = 5 := by omega
                    have HR := hid HI.out.2.done
                    clear HI HP0
                    go_wp2
                    go_roundw
                    case rel => exact ⟨a + 1, _, _, _, _, by go_num, by omega, HR.out⟩
                    case measure => simp [intOf]; omega
              · obtain rfl : a = i := by omega
                have hME := HB.out.lst
                clear HLN
                go_wp2_with fail
                clear p2
                go_loopw [11] (fun iv wr2 => ∃ b : Nat, iv = .int .i64 b ∧ b ≤ a ∧ Hid (wr2 = wp)) (fun iv _ => a - (intOf iv).toNat)
                case atStart => exact ⟨0, rfl, by omega, rfl⟩
                case round =>
                  obtain ⟨b, rfl, hb, HWP⟩ := hrel
                  have hwp := HWP.out
                  subst hwp
                  have p2 := HB.out.lb.c.1
                  by_cases hlt3 : b < a
                  · as_aux_lemma =>
                    have hb' : (b : Int) < (a : Int) := by omega
                    obtain ⟨eg, -, -⟩ := HB.out.lb.gla (by omega)
                    subst eg
                    have pl := HB.out.lb.cell b hlt3
                    have hme := hME b hlt3
                    have H28 := hid (reads_any b (NVf FL b) (LVf FL b) wr hme.row (by have := hme.1; omega) (by omega))
                    obtain ⟨-, E, C, hv, -⟩ := hme
                    rw [hv] at pl H28
                    clear hME hv HWP
                    generalize NVf FL b = N at *
                    go_wp2_with (first | (go_at_call 28; refine H28.out.mono ?_; rintro e w' ⟨rfl, hw'⟩; subst hw'))
                    go_roundw
                    case rel => exact ⟨b + 1, by go_num, by omega, True.intro⟩
                    case measure => simp [intOf]; omega
                  · obtain rfl : b = a := by omega
                    clear hME
                    go_wp2_with fail
                    clear p2
                    obtain ⟨wz, hwz⟩ : ∃ y, y = wr := ⟨_, rfl⟩
                    rw [← hwz] at HB ⊢
                    clear hwz HWP
                    have hbi : (b : Int) ≤ 10000000000 := HNI.out
                    obtain ⟨TB, hTB⟩ : ∃ T, 5 * b = T := ⟨_, rfl⟩
                    have HTB := hid hTB
                    have hTi : (TB : Int) ≤ 50000000000 := by omega
                    clear hTB
                    go_loopw [13] (fun iv wr2 => ∃ t m : Nat, iv = .int .i64 t ∧ t ≤ TB ∧ Hid (wr2 = wz.drewN m)) (fun iv _ => TB - (intOf iv).toNat)
                    case atStart => exact ⟨0, 0, rfl, by omega, rfl⟩
                    case round =>
                      obtain ⟨t, m2, rfl, ht, HWM⟩ := hrel
                      obtain ⟨vg, hvg⟩ : ∃ y, y = vg := ⟨_, rfl⟩
                      subst hvg
                      have p3 : wr.cell? ⟨bb, 3, none⟩ = some vg := by rw [HWM.out]; exact HB.out.lb.c.2.1
                      have p4 : wr.cell? ⟨bb, 4, none⟩ = some vh := by rw [HWM.out]; exact HB.out.lb.c.2.2
                      by_cases hlt4 : t < TB
                      · as_aux_lemma =>
                        have ht5 : t < 5 * b := by rw [HTB.out]; exact hlt4
                        obtain ⟨gg, cg, eg, -, -⟩ := HB.out.g.form (by omega)
                        obtain ⟨gh, ch, eh, -, -⟩ := HB.out.h.form (by omega)
                        obtain ⟨v, mm, e1, e2⟩ := HB.out.ent t ht5
                        have og := HB.out.g
                        have oh := HB.out.h
                        rw [eg] at og p3
                        rw [eh] at oh p4
                        have r0 : wr.cell? ⟨gg, t, none⟩ = some v := by
                          have := og.cells (g := gg) rfl t v e1
                          rw [Addr.add_lit, Nat.zero_add] at this
                          rw [HWM.out]; exact this
                        have r1 : wr.cell? ⟨gh, t, none⟩ = some (.int .i64 ((t / 5 : Nat) : Int)) := by
                          have := oh.cells (g := gh) rfl t _ (whoseL_at _ t ht5)
                          rw [Addr.add_lit, Nat.zero_add] at this
                          rw [HWM.out]; exact this
                        have H28 : Hid (∀ m', Calls Try.prog 28 #[v, .int .i64 ((t / 5 : Nat) : Int)] (wr.drewN m') fun e w' => e = .returned (.bool true) ∧ w' = wr.drewN m') := fun m' =>
                          reads_any (t / 5) mm v (wr.drewN m') (e2.row.below (by rw [HWM.out]; exact below_drew (below_drew (Below.refl _ _) m2) m')) (by have := e2.1; omega) (by omega)
                        obtain ⟨-, E, C, hv, -⟩ := e2
                        subst hv
                        rw [HTB.out] at p3 p4
                        have ht' : (t : Int) < (TB : Int) := by omega
                        clear og oh e1 HB ht5 eg eh
                        generalize hq5 : ((t / 5 : Nat) : Int) = Q5 at *
                        clear hq5
                        go_wp2_with fail
                        go_quiet (first | (go_at_call 28; with_reducible exact Calls.quiet_of_same (H28.out _)))
                        go_wp2
                        go_roundw
                        case rel => exact ⟨t + 1, _, by go_num, by omega, (by show _ = _; rw [HWM.out]; exact World.drewN_drewN _ _ _)⟩
                        case measure => simp [intOf]; omega
                      · obtain rfl : t = TB := by omega
                        obtain ⟨ga, gc, hvg⟩ : ∃ o c, vg = .slice o t c := by
                          rcases HB.out.g.2 with ⟨e, e2⟩ | ⟨g2, c2, cur, e, _⟩
                          · exact ⟨none, 0, by rw [e, ← HTB.out, e2]⟩
                          · exact ⟨_, c2, by rw [e, HTB.out]⟩
                        rw [hvg] at p3
                        have HE : Hid (∃ K', Mv (fun t => t ≠ 0) w wr K K') := by
                          rw [HWM.out]
                          exact ⟨_, HB.out.lb.mv.trans ((Mv.of_below (below_drew (Below.refl _ _) m2) _ (fun _ => 0)).mono (fun _ h => h.elim))⟩
                        clear HB hvg p4
                        go_wp2
                        go_ret
                        exact ⟨rfl, HE.out⟩
end Go.Proofs.Ytlnaejhdnbmmjaa
