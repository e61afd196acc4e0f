/- Services: Offer. -/
import Derived.Test.YtcpjihaicmlmjaaPSn
import Derived.Test.YtcpjihaicmlmjaaPSo
namespace Go.Proofs.Ytcpjihaicmlmjaa
open Go.RowKit
attribute [local go_sem] run_store_func run_store_nilFunc
theorem step_call1 {P : Program} {ops : Array Oper} {o : Oper} {a : Act} {w : World} {K : Act → World → Prop} {Q : Exit → Act → World → Prop} {E : Prop} (hg : o.guard = none) (f : FuncId) (x : Operand) (ts : Array TypeId)
    (hop : o.op = Op.call { callee := .value (.func f), args := #[x], argTypes := ts }) (u : Value) (hx : a.eval x = u) (hcf : ∀ ys w, (callFunc f ys).run P w = .ok (.enter f ys) w) (post : Ending → World → Prop) (hC : Calls P f #[u] w post) (h : ∀ e w', post e w' → ∃ v, e = .returned v ∧ K (a.put o.dst v) w') :
    if Region.wanted o (yielded ops a.tmps) = true then Oper.wp P o a w K Q else E := step_call hg f _ ts hop #[u] (by simp [hx]) hcf post hC h
theorem cf30 (ys : Array Value) (w : World) : (callFunc 30 ys).run Try.prog w = .ok (.enter 30 ys) w := by
  simp [callFunc, Try.func30, Try.f30]
def offerE (L : List Sv) (s : Sv) (nn : Bool) : Int := if mayP s nn = false then 180 else if (L.find? (isIt s.prog s.vers)).isSome = true then 181 else if 16 ≤ L.length then 182 else 0
def Took (L L' : List Sv) (s : Sv) (c : Int) : Prop := (¬ c = 0 ∧ L' = L) ∨ (c = 0 ∧ ∃ oa cap, L' = L ++ [⟨s.prog, s.vers, s.procs, oa, cap⟩])
set_option maxRecDepth 8000 in
theorem offer_nil {K : Nat → Nat} {w : World} {t b : Nat} {oa : Option Addr} {cap : Nat} {L : List Sv} (h : PR K w t b oa cap L) (s : Sv) (hg : GsAt w w.heap.size s.oa s.procs) (hl : s.procs.length ≤ 17592186044416) :
    Calls Try.prog 14 #[ptr b, .agg (svA s .nilFunc)] w fun e w' => ∃ K' oa' cap' L', e = .returned (.int .i64 (offerE L s false)) ∧ PR K' w' t b oa' cap' L' ∧ Mv (fun x => x = t) w w' K K' ∧ Took L L' s (offerE L s false) := by
  have hm : mayP s false = false := by unfold mayP; simp
  have hE : offerE L s false = 180 := by unfold offerE; rw [if_pos hm]
  rw [hE]
  obtain ⟨w0, hw0⟩ : ∃ w0, w.alloc (.cells (svA s .nilFunc) 48) = w0 := ⟨_, rfl⟩
  obtain ⟨S0, hS0⟩ : ∃ S0, w.heap.size = S0 := ⟨_, rfl⟩
  have B0 : Below w.heap.size w w0 := by rw [← hw0]; exact (Below.refl _ _).alloc (Nat.le_refl _) _
  have k0 : w0.heap[S0]? = some (.cells (svA s .nilFunc) 48) := by rw [← hw0, ← hS0]; exact (MapKept.heap_alloc w _).1
  have c0 : w0.cell? ⟨S0, 0, none⟩ = some (.int .i64 s.prog) := by unfold World.cell?; rw [k0]; rfl
  have c1 : w0.cell? ⟨S0, 1, none⟩ = some (.int .i64 s.vers) := by unfold World.cell?; rw [k0]; rfl
  have c2 : w0.cell? ⟨S0, 2, none⟩ = some (.slice s.oa s.procs.length s.cap) := by unfold World.cell?; rw [k0]; rfl
  have c3 : w0.cell? ⟨S0, 3, none⟩ = some .nilFunc := by unfold World.cell?; rw [k0]; rfl
  have HM := hid (mayBe_any s .nilFunc false (.inl ⟨rfl, rfl⟩) w0 ((hg.below B0).mono B0.size) (Nat.le_trans hl (by omega)))
  rw [hm] at HM
  have HF : Hid (∀ w', Below w0.heap.size w0 w' → ∃ K' oa' cap' L', PR K' w' t b oa' cap' L' ∧ Mv (fun x => x = t) w w' K K' ∧ Took L L' s 180) := fun w' hb => by
    have hb' := B0.trans (hb.mono B0.size)
    exact ⟨_, _, _, _, h.below hb' (fun _ => 7), (Mv.of_below hb' K (fun _ => 7)).mono (fun _ h => h.elim), .inl ⟨by omega, rfl⟩⟩
  clear h hg hl hm hE B0 k0
  go_enter Try.func14, Try.ntmps14
  go_wp2_with fail
  refine HM.out.mono ?_
  rintro _ w1 ⟨rfl, hb1⟩
  have HF1 := hid (HF.out w1 hb1)
  clear hb1
  go_wp2
  go_ret
  obtain ⟨K', oa', cap', L', f1, f2, f3⟩ := HF1.out
  exact ⟨K', oa', cap', L', rfl, f1, f2, f3⟩
set_option maxRecDepth 8000 in
set_option maxHeartbeats 2000000 in
theorem offer_any {K : Nat → Nat} {w : World} {t b : Nat} {oa : Option Addr} {cap : Nat} {L : List Sv} (h : PR K w t b oa cap L) (ht : ¬ t = 7) (s : Sv) (hg : GsAt w w.heap.size s.oa s.procs) (hsp : ∀ a, s.oa = some a → a.spot = none) (hl : s.procs.length ≤ 17592186044416) :
    Calls Try.prog 14 #[ptr b, .agg (svA s hd)] w fun e w' => ∃ K' oa' cap' L', e = .returned (.int .i64 (offerE L s true)) ∧ PR K' w' t b oa' cap' L' ∧ Mv (fun x => x = t) w w' K K' ∧ Took L L' s (offerE L s true) := by
  obtain ⟨w0, hw0⟩ : ∃ w0, w.alloc (.cells (svA s hd) 48) = w0 := ⟨_, rfl⟩
  obtain ⟨S0, hS0⟩ : ∃ S0, w.heap.size = S0 := ⟨_, rfl⟩
  have B0 : Below w.heap.size w w0 := by rw [← hw0]; exact (Below.refl _ _).alloc (Nat.le_refl _) _
  have k0 : w0.heap[S0]? = some (.cells (svA s hd) 48) := by rw [← hw0, ← hS0]; exact (MapKept.heap_alloc w _).1
  have hlt0 : S0 < w0.heap.size := (Array.getElem?_eq_some_iff.1 k0).1
  have HC : Hid (∀ w', Below w0.heap.size w0 w' → w'.heap[S0]? = some (.cells (svA s hd) 48)) := fun w' hb => (hb.block S0 hlt0).trans k0
  have c0 : w0.cell? ⟨S0, 0, none⟩ = some (.int .i64 s.prog) := by unfold World.cell?; rw [k0]; rfl
  have c1 : w0.cell? ⟨S0, 1, none⟩ = some (.int .i64 s.vers) := by unfold World.cell?; rw [k0]; rfl
  have c2 : w0.cell? ⟨S0, 2, none⟩ = some (.slice s.oa s.procs.length s.cap) := by unfold World.cell?; rw [k0]; rfl
  have c3 : w0.cell? ⟨S0, 3, none⟩ = some hd := by unfold World.cell?; rw [k0]; rfl
  have HM := hid (mayBe_any s hd true (.inr ⟨rfl, rfl⟩) w0 ((hg.below B0).mono B0.size) (Nat.le_trans hl (by omega)))
  have HB0 := hid B0
  have H0 := hid h
  have HG := hid hg
  have HSP := hid hsp
  have HL := hid hl
  obtain ⟨R, hR⟩ : ∃ R, offerE L s true = R := ⟨_, rfl⟩
  have HRR := hid hR
  rw [hR]
  unfold offerE at HRR
  have HF : Hid (∀ w', Below w.heap.size w w' → ¬ R = 0 → ∃ K' oa' cap' L', PR K' w' t b oa' cap' L' ∧ Mv (fun x => x = t) w w' K K' ∧ Took L L' s R) := fun w' hb hr =>
    ⟨_, _, _, _, h.below hb (fun _ => 7), (Mv.of_below hb K (fun _ => 7)).mono (fun _ h => h.elim), .inl ⟨hr, rfl⟩⟩
  obtain ⟨q, hq⟩ : ∃ q, mayP s true = q := ⟨_, rfl⟩
  rw [hq] at HM HRR
  have HQ := hid hq
  clear h hg hl hsp B0 k0 hR hlt0 hq
  go_enter Try.func14, Try.ntmps14
  go_wp2_with fail
  refine HM.out.mono ?_
  rintro _ w1 ⟨rfl, hb1⟩
  have HB1 := hid hb1
  have HB01 := hid (HB0.out.trans (hb1.mono HB0.out.size))
  clear hb1 HM c0 c1 c2 c3
  cases q with
  | false =>
    have hR : 180 = R := HRR.out
    subst hR
    go_wp2
    go_ret
    obtain ⟨K', oa', cap', L', f1, f2, f3⟩ := HF.out w1 HB01.out (by omega)
    exact ⟨K', oa', cap', L', rfl, f1, f2, f3⟩
  | true =>
    rw [if_neg (by simp)] at HRR
    have c0 : w1.cell? ⟨S0, 0, none⟩ = some (.int .i64 s.prog) := by unfold World.cell?; rw [HC.out _ HB1.out]; rfl
    have c1 : w1.cell? ⟨S0, 1, none⟩ = some (.int .i64 s.vers) := by unfold World.cell?; rw [HC.out _ HB1.out]; rfl
    have HS := hid (service_any (H0.out.below HB01.out (fun _ => 7)) s.prog s.vers)
    generalize L.find? (isIt s.prog s.vers) = r at *
    go_wp2_with fail
    refine HS.out.mono ?_
    rintro _ w2 ⟨rfl, hb2⟩
    have HB2 := hid (HB1.out.trans (hb2.mono HB1.out.size))
    have HB02 := hid (HB01.out.trans (hb2.mono HB01.out.size))
    clear hb2 HS c0 c1
    obtain ⟨S1, hS1⟩ : ∃ S1, w2.heap.size = S1 := ⟨_, rfl⟩
    cases r with
    | some s' =>
      obtain ⟨u1, u2, u3, u4, u5, ⟨e1, e2, e3, e4, e5⟩, ⟨x10, x11, x12, x13, x21, x22, x23, x32, x33, x43⟩, ⟨f1, f2, f3, f4⟩, k5, b5, s5⟩ := box4 w2 48 (.int .i64 0) (.int .i64 0) (.slice none 0 0) .nilFunc (.int .i64 s'.prog) (.int .i64 s'.vers) (.slice s'.oa s'.procs.length s'.cap) hd S1 hS1
      have HB5 := hid (HB02.out.trans (b5.mono HB02.out.size))
      have hR : 181 = R := HRR.out
      subst hR
      clear b5 k5 s5
      unfold svcV
      go_wp2
      go_ret
      obtain ⟨K', oa', cap', L', f1, f2, f3⟩ := HF.out u5 HB5.out (by omega)
      exact ⟨K', oa', cap', L', rfl, f1, f2, f3⟩
    | none =>
      obtain ⟨u1, u2, u3, u4, u5, ⟨e1, e2, e3, e4, e5⟩, ⟨x10, x11, x12, x13, x21, x22, x23, x32, x33, x43⟩, ⟨f1, f2, f3, f4⟩, k5, b5, s5⟩ := box4 w2 48 (.int .i64 0) (.int .i64 0) (.slice none 0 0) .nilFunc (.int .i64 0) (.int .i64 0) (.slice none 0 0) .nilFunc S1 hS1
      have HB5 := hid (HB02.out.trans (b5.mono HB02.out.size))
      have HB15 := hid (HB2.out.trans (b5.mono HB2.out.size))
      have HR2 : Hid ((if 16 ≤ L.length then 182 else 0) = R) := HRR.out
      have p5 := (H0.out.below HB5.out (fun _ => 7)).c0
      obtain ⟨n, hn⟩ : ∃ n, L.length = n := ⟨_, rfl⟩
      have HN := hid hn
      rw [hn] at p5 HR2
      clear b5 k5 s5 HRR hn
      unfold svcV
      by_cases hfull : 16 ≤ n
      · rw [if_pos hfull] at HR2
        have hR : 182 = R := HR2.out
        subst hR
        have hfi : (16 : Int) ≤ (n : Int) := by omega
        go_wp2
        go_ret
        obtain ⟨K', oa', cap', L', f1, f2, f3⟩ := HF.out u5 HB5.out (by omega)
        exact ⟨K', oa', cap', L', rfl, f1, f2, f3⟩
      · rw [if_neg hfull] at HR2
        have hR : 0 = R := HR2.out
        subst hR
        have hfi : ¬ (16 : Int) ≤ (n : Int) := by omega
        have c2 : u5.cell? ⟨S0, 2, none⟩ = some (.slice s.oa s.procs.length s.cap) := by unfold World.cell?; rw [HC.out _ HB15.out]; rfl
        have HCL := hid (gclone_any s.procs s.oa s.cap u5 ((HG.out.below HB5.out).mono HB5.out.size) HSP.out HL.out)
        obtain ⟨m, hm⟩ : ∃ m, s.procs.length = m := ⟨_, rfl⟩
        have HMM := hid hm
        rw [hm] at c2 HCL
        clear hm
        go_wp2_with fail
        refine HCL.out.mono ?_
        rintro _ w6 ⟨oc, cc, rfl, hg6, hb6⟩
        have HB6 := hid (HB15.out.trans (hb6.mono HB15.out.size))
        have HB06 := hid (HB5.out.trans (hb6.mono HB5.out.size))
        have hlt0 : S0 < u5.heap.size := (Array.getElem?_eq_some_iff.1 (HC.out _ HB15.out)).1
        have k6 := HC.out _ HB6.out
        have d62 : w6.cell? ⟨S0, 2, none⟩ = some (.slice s.oa m s.cap) := by unfold World.cell?; rw [k6, ← HMM.out]; rfl
        have g62 : w6.frozen? ⟨S0, 2, none⟩ = false := by unfold World.frozen?; rw [k6]; rfl
        obtain ⟨w7, hw7⟩ : ∃ w7, w6.setCell ⟨S0, 2, none⟩ (.slice oc m cc) = w7 := ⟨_, rfl⟩
        obtain ⟨sx, hsx⟩ : ∃ sx : Sv, sx = ⟨s.prog, s.vers, s.procs, oc, cc⟩ := ⟨_, rfl⟩
        have hA : svA sx hd = #[.int .i64 s.prog, .int .i64 s.vers, .slice oc m cc, hd] := by rw [hsx, ← HMM.out]
        have k7 : w7.heap[S0]? = some (.cells (svA sx hd) 48) := by rw [hA, ← hw7]; unfold World.setCell; simp [Array.getElem?_modify, k6]
        have B7 : Below w.heap.size w w7 := by rw [← hw7]; exact below_set HB06.out (Nat.le_of_eq hS0) _ _
        have D0 : Below w.heap.size w w7.drew := ⟨B7.os, B7.tape, B7.output, B7.size, B7.block⟩
        have p7 := (H0.out.below D0 (fun _ => 7)).c0
        rw [HN.out] at p7
        have k7d : w7.drew.heap[S0]? = some (.cells (svA sx hd) 48) := k7
        rw [hA] at k7d
        have d0 : w7.drew.cell? ⟨S0, 0, none⟩ = some (.int .i64 s.prog) := by unfold World.cell?; rw [k7d]; rfl
        have d1 : w7.drew.cell? ⟨S0, 1, none⟩ = some (.int .i64 s.vers) := by unfold World.cell?; rw [k7d]; rfl
        have d2 : w7.drew.cell? ⟨S0, 2, none⟩ = some (.slice oc m cc) := by unfold World.cell?; rw [k7d]; rfl
        have d3 : w7.drew.cell? ⟨S0, 3, none⟩ = some hd := by unfold World.cell?; rw [k7d]; rfl
        obtain ⟨S8, hS8⟩ : ∃ S8, w7.heap.size = S8 := ⟨_, rfl⟩
        obtain ⟨w8, hw8⟩ : ∃ w8, w7.drew.alloc (.cells #[.int .i64 s.prog, .int .i64 s.vers, .slice oc m cc, hd] 48) = w8 := ⟨_, rfl⟩
        have B78 : Below w7.heap.size w7 w8 := by rw [← hw8]; exact ⟨rfl, rfl, rfl, by simp, fun k hk => Below.heap_alloc w7.drew _ k hk⟩
        have B8 : Below w.heap.size w w8 := B7.trans (B78.mono B7.size)
        have k8 : w8.heap[S8]? = some (.cells (svA sx hd) 48 (0, 0)) := by rw [hA, ← hw8, ← hS8]; exact heap_alloc_new w7.drew _
        have P8 := H0.out.below B8 (fun _ => 7)
        have p8 := P8.c0
        rw [HN.out] at p8
        obtain ⟨hcap, g, hoa, hcells⟩ := P8.form
        rw [HN.out] at hcap hoa
        obtain ⟨cap9, w9, hr9, ho9, hg9, hs9⟩ := app50 w8 oa L n g S8 sx HN.out hoa hcells k8 (by omega)
        obtain ⟨S9, hS9⟩ : ∃ S9, w8.heap.size = S9 := ⟨_, rfl⟩
        rw [hS9] at hr9
        have B89 : Below w8.heap.size w8 w9 := ⟨hg9.os, hg9.tape, hg9.output, hg9.size, fun k hk => hg9.block k hk (by simp)⟩
        have B9 : Below w.heap.size w w9 := B8.trans (B89.mono B8.size)
        have P9 := H0.out.below B9 (fun _ => 7)
        have p9 := P9.c0
        have f9 := P9.f0
        rw [HN.out] at p9
        have hl9 : (L ++ [sx]).length = n + 1 := by rw [List.length_append, HN.out]; rfl
        obtain ⟨w10, hw10⟩ : ∃ w10, w9.setCell ⟨b, 0, none⟩ (.slice (some ⟨S9, 0, none⟩) (n + 1) cap9) = w10 := ⟨_, rfl⟩
        have row : RW 48 4 svC (ext w K (fun _ => 7)) w9 0 7 (.slice (some ⟨S9, 0, none⟩) (L ++ [sx]).length cap9) (L ++ [sx]) := by
          refine ⟨?_, fun g' hg' => ?_⟩
          · rw [hl9, ← hS9]
            exact own_mono ho9 (Nat.zero_le _)
          · cases hg'
            exact ext_new (by rw [← hS9]; exact B8.size)
        have hgs : GsT (ext w K (fun _ => 7)) w9 7 sx.oa sx.procs := by
          rw [hsx]
          intro h0
          obtain ⟨q', off, e1, e2, e3, e4⟩ := hg6 h0
          have z6 : w7.heap.size = w6.heap.size := by rw [← hw7]; simp [World.setCell]
          refine ⟨q', off, e1, Nat.lt_of_lt_of_le e3 (by rw [← z6]; exact Nat.le_trans B78.size B89.size), ext_new (Nat.le_trans HB5.out.size e2), fun i hi => (cell_of_block ?_).trans (e4 i hi)⟩
          rw [B89.block q' (Nat.lt_of_lt_of_le e3 (by rw [← z6]; exact B78.size)), B78.block q' (by rw [z6]; exact e3), ← hw7]
          exact Below.heap_setCell _ _ _ _ (show q' ≠ S0 by omega)
        have hok : okS sx := by
          have := HQ.out
          unfold mayP at this
          simp only [Bool.and_eq_true] at this
          rw [hsx]
          exact ⟨this.1, this.2.1, this.2.2.1, HL.out⟩
        obtain ⟨fP, fM⟩ := P9.add ht row hgs hok (by rw [HN.out]; omega)
        rw [hl9, hw10] at fP fM
        have HFIN : Hid (PR (ext w K (fun _ => 7)) w10 t b (some ⟨S9, 0, none⟩) cap9 (L ++ [sx]) ∧ Mv (fun x => x = t) w w10 K (ext w K (fun _ => 7)) ∧ Took L (L ++ [sx]) s 0) :=
          ⟨fP, ((Mv.of_below B9 K (fun _ => 7)).mono (fun _ h => h.elim)).trans fM, .inr ⟨rfl, oc, cc, by rw [hsx]⟩⟩
        have HCP := hid (fun w => clip_any w oa n cap hcap)
        have HR9 := hid hr9
        have hbl : ∀ w : World, (Instr.buildSlice 50 1 #[(0, .agg #[.int .i64 s.prog, .int .i64 s.vers, .slice oc m cc, hd])]).run Try.prog w = .ok (.slice (some ⟨w.heap.size, 0, none⟩) 1 1) (w.alloc (.cells #[.int .i64 s.prog, .int .i64 s.vers, .slice oc m cc, hd] 48)) := fun w => bls50 w _ _ _ _ ⟨_, rfl⟩ ⟨_, rfl⟩ ⟨_, _, _, rfl⟩ rfl
        clear hg6 hb6 k6 k7 k7d B7 D0 B78 B8 k8 P8 hcap hoa hcells hr9 ho9 hg9 hs9 B89 B9 P9 hl9 row hgs hok fP fM hsx hA hlt0 HCL c2
        go_wp2_with fail
        go_region_law (first
          | (refine step_call1 rfl 30 (.tmp 34) #[50] rfl (.slice oa n cap) (by go_simp) cf30 _ (HCP.out _) ?_; rintro e w2 ⟨rfl, rfl⟩; refine ⟨_, rfl, ?_⟩)
          | (refine step_app rfl (.tmp 35) (.tmp 37) 50 rfl (.slice oa n n) (.slice (some ⟨S8, 0, none⟩) 1 1) _ _ (by go_simp) (by go_simp) (HR9.out _) ?_))
        all_goals (
          go_wp2
          go_ret
          exact ⟨_, _, _, _, rfl, HFIN.out⟩)
end Go.Proofs.Ytcpjihaicmlmjaa
