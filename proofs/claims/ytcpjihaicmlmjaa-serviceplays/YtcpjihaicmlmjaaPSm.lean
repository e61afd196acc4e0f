/- Services: the versions of a program. -/
import Derived.Test.YtcpjihaicmlmjaaPSl
namespace Go.Proofs.Ytcpjihaicmlmjaa
open Go.RowKit
attribute [local go_sem] run_store_func run_store_nilFunc
theorem bls1 (w : World) (x : Int) : (Instr.buildSlice 32 1 #[(0, .int .i64 x)]).run Try.prog w = .ok (.slice (some ⟨w.heap.size, 0, none⟩) 1 1) (w.alloc (.cells #[.int .i64 x] 3)) := by kernel_rfl
theorem gvs_app (l : List Int) (x : Int) : gvs (l ++ [x]) = gvs l ++ [.int .i64 x] := by unfold gvs; simp
theorem app32 {w : World} {B : Nat} {v : Value} {l : List Int} (h : w.ownsRow B 3 1 v l.length (gvs l)) (hB : B ≤ w.heap.size) {N : Nat} {x : Int} (hb : w.heap[N]? = some (.cells #[.int .i64 x] 3 (0, 0))) (hm : l.length + 1 ≤ 17592186044416) :
    ∃ v' w', (∀ r, (Builtin.append_ #[32, 32] r #[v, .slice (some ⟨N, 0, none⟩) 1 1]).run Try.prog w = .ok v' w') ∧ w'.ownsRow B 3 1 v' (l ++ [x]).length (gvs (l ++ [x])) ∧ w.grownBy w' v.ownBlock ∧ (v'.ownBlock = v.ownBlock ∨ v'.ownBlock = some w.heap.size) := by
  obtain ⟨i, hi, hz, hs, hby⟩ := info3
  obtain ⟨v', w', hr, ho, hg, _, hat⟩ := run_append_own_at (P := Try.prog) w B 32 0 3 i _ 1 8 Try.underlying32 hi hz hs hby rfl (by omega) v l.length (gvs l) h ⟨N, 0, none⟩ 1 1 [.int .i64 x] rfl (World.news_of_block hb) (fun u hu => by simp at hu; subst hu; rfl) (by unfold maxLen; omega) (by omega) hB
  refine ⟨v', w', fun r => hr, ?_, hg, hat⟩
  rw [gvs_app, List.length_append]
  exact ho
theorem below_grown {B : Nat} {W w w' : World} {e : TypeId} {sz : Nat} {v : Value} {n : Nat} {xs : List Value} (hB : Below B W w) (h : w.ownsRow B e sz v n xs) (hg : w.grownBy w' v.ownBlock) (hs : B ≤ w.heap.size) : Below B W w' :=
  ⟨hg.os.trans hB.os, hg.tape.trans hB.tape, hg.output.trans hB.output, Nat.le_trans hB.size hg.size, fun b hb => (hg.block b (by omega) (fun e => by have := (h.lt b e.symm).1; omega)).trans (hB.block b hb)⟩
theorem own_below {B S : Nat} {w w' : World} {e : TypeId} {sz : Nat} {v : Value} {n : Nat} {xs : List Value} (h : w.ownsRow B e sz v n xs) (hB : Below S w w') (hS : w.heap.size ≤ S) : w'.ownsRow B e sz v n xs :=
  own_block h (fun g hg => hB.block g (Nat.lt_of_lt_of_le (h.lt g hg).2 hS))
theorem own_gs {B : Nat} {w : World} {v : Value} {l : List Int} (h : w.ownsRow B 3 1 v l.length (gvs l)) : ∃ oa c, v = .slice oa l.length c ∧ GsN w B oa l := by
  have h' := h
  rcases h.2 with ⟨e1, e2⟩ | ⟨g, cap, cur, e1, e3, e4, e5⟩
  · exact ⟨none, 0, by rw [e1, e2], fun h0 => by omega⟩
  · subst e1
    refine ⟨_, _, rfl, fun _ => ⟨g, 0, rfl, e3, (Array.getElem?_eq_some_iff.1 e4).1, fun i hi => ?_⟩⟩
    rw [Nat.zero_add, h'.cellAt i (by omega)]
    unfold gvs
    simp [List.getD, List.getElem?_eq_getElem hi]
def vsP (p : Int) (L : List Sv) : List Int := (L.filter fun s => s.prog == p).map Sv.vers
theorem vs_step {L : List Sv} {j : Nat} {s : Sv} (p : Int) (hs : L[j]? = some s) : vsP p (L.take (j + 1)) = if (s.prog == p) = true then vsP p (L.take j) ++ [s.vers] else vsP p (L.take j) := by
  have hj : j < L.length := (List.getElem?_eq_some_iff.1 hs).1
  rw [List.take_add_one, hs]
  unfold vsP
  simp only [Option.toList_some, List.filter_append, List.map_append]
  split <;> rename_i h
  · simp [h]
  · simp [h]
theorem vs_len (p : Int) (L : List Sv) : (vsP p L).length ≤ L.length := by
  unfold vsP
  rw [List.length_map]
  exact List.length_filter_le _ _
theorem vs_small (p : Int) (L : List Sv) (j n : Nat) (hn : L.length = n) (hm : n ≤ 16) : (vsP p (L.take j)).length + 1 ≤ 17592186044416 := by
  have h1 := vs_len p (L.take j)
  rw [List.length_take] at h1
  omega
set_option maxRecDepth 8000 in
set_option maxHeartbeats 1000000 in
theorem versions_any {K : Nat → Nat} {w : World} {t b : Nat} {oa : Option Addr} {cap : Nat} {L : List Sv} (h : PR K w t b oa cap L) (p : Int) :
    Calls Try.prog 17 #[ptr b, .int .i64 p] w fun e w' => ∃ ob c, e = .returned (.slice ob (vsP p L).length c) ∧ GsN w' w.heap.size ob (vsP p L) ∧ Below w.heap.size w w' := by
  have H0 := hid h
  have c0 := h.c0
  obtain ⟨n, hn⟩ : ∃ n, L.length = n := ⟨_, rfl⟩
  have HN := hid hn
  have HM := hid (hn ▸ h.most)
  rw [hn] at c0
  have hb1 := bls1
  clear h hn
  go_enter Try.func17, Try.ntmps17
  go_wp2_with fail
  go_loopw [5, 13] (fun al ix wr => ∃ (j : Nat), ix = .int .i64 j ∧ j ≤ n ∧ Hid (wr.ownsRow w.heap.size 3 1 al (vsP p (L.take j)).length (gvs (vsP p (L.take j)))) ∧ Hid (Below w.heap.size w wr)) (fun _ ix _ => n - (intOf ix).toNat)
  case atStart => exact ⟨0, rfl, by omega, (⟨by simp [vsP, gvs], .inl ⟨rfl, by simp [vsP]⟩⟩ : w.ownsRow w.heap.size 3 1 (.slice none 0 0) (vsP p (L.take 0)).length (gvs (vsP p (L.take 0)))), (Below.refl _ _ : Below w.heap.size w w)⟩
  case round =>
    obtain ⟨j, rfl, hj, HE, HB⟩ := hrel
    obtain ⟨ob, c, rfl, hgs⟩ := own_gs HE.out
    have HG := hid hgs
    obtain ⟨m, hm⟩ : ∃ m, (vsP p (L.take j)).length = m := ⟨_, rfl⟩
    rw [hm] at HE ⊢
    have HLM := hid hm
    clear hgs hm
    by_cases hlt : j < n
    · obtain ⟨g, ho, hg, hc⟩ := H0.out.at_ (by have := HN.out; omega)
      obtain ⟨s, hs⟩ : ∃ s, L[j]? = some s := ⟨L[j]'(by have := HN.out; omega), List.getElem?_eq_getElem _⟩
      have d0 : wr.cell? ⟨g, j * 4, none⟩ = some (.int .i64 s.prog) := (cell_of_block (HB.out.block g hg)).trans (hc j s hs 0 (by omega))
      have d1 : wr.cell? ⟨g, j * 4 + 1, none⟩ = some (.int .i64 s.vers) := (cell_of_block (HB.out.block g hg)).trans (hc j s hs 1 (by omega))
      have d2 : wr.cell? ⟨g, j * 4 + 2, none⟩ = some (.slice s.oa s.procs.length s.cap) := (cell_of_block (HB.out.block g hg)).trans (hc j s hs 2 (by omega))
      have d3 : wr.cell? ⟨g, j * 4 + 3, none⟩ = some hd := (cell_of_block (HB.out.block g hg)).trans (hc j s hs 3 (by omega))
      have HV := hid (vs_step p hs)
      subst ho
      have j0 : (0 : Int) ≤ (j : Int) := by omega
      have j1 : (j : Int) < (n : Int) := by omega
      have hw := wrapJ hlt (Nat.le_trans HM.out (by omega))
      obtain ⟨S1, hS1⟩ : ∃ S1, wr.heap.size = S1 := ⟨_, rfl⟩
      obtain ⟨w1, w2, w3, w4, w5, ⟨e1, e2, e3, e4, e5⟩, ⟨x10, x11, x12, x13, x21, x22, x23, x32, x33, x43⟩, ⟨f1, f2, f3, f4⟩, k5, b5, s5⟩ := box4 wr 48 (.int .i64 0) (.int .i64 0) (.slice none 0 0) .nilFunc (.int .i64 s.prog) (.int .i64 s.vers) (.slice s.oa s.procs.length s.cap) hd S1 hS1
      have y0 : w5.cell? ⟨S1, 0, none⟩ = some (.int .i64 s.prog) := by unfold World.cell?; rw [k5]; rfl
      have y1 : w5.cell? ⟨S1, 1, none⟩ = some (.int .i64 s.vers) := by unfold World.cell?; rw [k5]; rfl
      have HB5 : Hid (Below w.heap.size w w5) := HB.out.trans (b5.mono HB.out.size)
      have HE5 := hid (own_below HE.out b5 (Nat.le_refl _))
      have HSZ := hid s5
      clear hc b5 k5
      cases hp : (s.prog == p)
      · rw [hp, if_neg (by simp)] at HV
        go_wp2
        go_roundw
        case rel => exact ⟨j + 1, by go_num, hlt, by rw [HV.out, HLM.out]; exact HE5, HB5⟩
        case measure => exact meas (by go_num) j1
      · rw [hp, if_pos rfl] at HV
        obtain ⟨S2, hS2⟩ : ∃ S2, w5.heap.size = S2 := ⟨_, rfl⟩
        obtain ⟨w6, hw6⟩ : ∃ w6, w5.alloc (.cells #[.int .i64 s.vers] 3) = w6 := ⟨_, rfl⟩
        have b6 : Below w5.heap.size w5 w6 := by rw [← hw6]; exact (Below.refl _ _).alloc (Nat.le_refl _) _
        have k6 : w6.heap[S2]? = some (.cells #[.int .i64 s.vers] 3 (0, 0)) := by rw [← hw6, ← hS2]; exact (MapKept.heap_alloc w5 _).1
        have HB6 := HB5.out.trans (b6.mono HB5.out.size)
        have HE6 := own_below HE5.out b6 (Nat.le_refl _)
        obtain ⟨al', w7, hr, ho, hgr, _⟩ := app32 (l := vsP p (L.take j)) (by rw [HLM.out]; exact HE6) HB6.size k6 (vs_small p L j n HN.out HM.out)
        have HR := hid hr
        have HE7 := hid ho
        have HB7 := hid (below_grown HB6 HE6 hgr HB6.size)
        clear b6 k6 HB6 HE6 hr ho hgr
        go_wp2_with (at_builtin; refine Hid.out ?_)
        refine (show Hid _ from ?_)
        refine wpList_app rfl _ _ 32 rfl (.slice ob m c) (.slice (some ⟨S2, 0, none⟩) 1 1) al' w7 (by go_simp) (by go_simp) (HR.out _) ?_
        go_wp2
        go_roundw
        case rel => exact ⟨j + 1, by go_num, hlt, by rw [HV.out]; exact HE7, HB7⟩
        case measure => exact meas (by go_num) j1
    · obtain rfl : j = n := by omega
      have hT : L.take j = L := List.take_of_length_le (by have := HN.out; omega)
      rw [hT] at HG HLM
      go_wp2
      go_ret
      exact ⟨ob, c, by rw [HLM.out]; rfl, HG.out, HB.out⟩
end Go.Proofs.Ytcpjihaicmlmjaa
