/- The client: Tick. -/
import Derived.Test.YteejeemljhmgcaaGreatDoorJt
namespace Go.Proofs.YteejeemljhmgcaaGreatDoor.Cl
open Go.RowKit
/-- the time of a call is over -/
def overB (now : Int) (x : Wt) : Bool := decide (x.fin ≤ now)
def tOut (now : Int) (x : Wt) : Oc := ⟨x.seq, 2, 0, 0, 0, 0, 0, [], now⟩
def lenC (p : Nat) (w : World) : Nat := match w.cell? ⟨p, 14, none⟩ with | some (.slice _ n _) => n | _ => 0
theorem bld80 (w : World) : (Instr.build 80 #[(1, .int .i64 2)]).run Tryz.prog w = .ok (.agg #[.int .i64 0, .int .i64 2, .int .i64 0, .int .i64 0, .int .i64 0, .int .i64 0, .int .i64 0, .string ⟨#[]⟩, .int .i64 0]) w := by kernel_rfl
section
variable {K K' : Nat → Nat} {w w' : World} {B t p : Nat} {c : Cf} {oa : Option Addr} {cap : Nat} {next now : Int} {L : List Wt} {D : List Oc} {vw vd : Value} {q : Nat}
def TickR (K : Nat → Nat) (w w' : World) (B t p : Nat) (c : Cf) (oa : Option Addr) (cap : Nat) (next now : Int) (L : List Wt) (D : List Oc) (q : Nat) (L' : List Wt) : Prop :=
  ∃ K' vw' vd' D', PC K' w' B t p c oa cap next now L' D' vw' vd' q ∧ L'.dropWhile (overB now) = L.dropWhile (overB now) ∧ D' ++ (L'.takeWhile (overB now)).map (tOut now) = D ++ (L.takeWhile (overB now)).map (tOut now) ∧ D'.length + L'.length = D.length + L.length ∧ Mv (fun u => u = t ∨ u = t + 1 ∨ u = t + 2) w w' K K'
set_option maxRecDepth 8000 in
set_option maxHeartbeats 8000000 in
theorem PC.tick_any (h : PC K w B t p c oa cap next now L D vw vd q) (hn : -1000000000000 ≤ now ∧ now ≤ 1000000000000) (hD : D.length + L.length ≤ 100000000) :
    Calls Tryz.prog 21 #[ptr p] w fun e w' => (∃ v, e = .returned v) ∧ Hid (∃ K' vw' vd', PC K' w' B t p c oa cap next (now + 1) (L.dropWhile (overB (now + 1))) (D ++ (L.takeWhile (overB (now + 1))).map (tOut (now + 1))) vw' vd' q ∧ Mv (fun u => u = t ∨ u = t + 1 ∨ u = t + 2) w w' K K') := by
  have c13 := h.ce (k := 13) rfl
  have f13 := h.fz 13
  obtain ⟨w0, hw0⟩ : ∃ y, w.setCell ⟨p, 13, none⟩ (.int .i64 (now + 1)) = y := ⟨_, rfl⟩
  obtain ⟨P0, m0⟩ := h.now_ (now + 1)
  rw [hw0] at P0 m0
  obtain ⟨nw, hnw⟩ : ∃ nw, now + 1 = nw := ⟨_, rfl⟩
  have hwr : wrap64 (now + 1) = nw := by rw [← hnw]; unfold wrap64; omega
  rw [hnw] at P0 hw0 ⊢
  have HR0 : Hid (TickR K w w0 B t p c oa cap next nw L D q L) := ⟨K, vw, vd, D, P0, rfl, rfl, rfl, m0.mono (fun u e => .inl e)⟩
  have HD := hid hD
  clear h hn hD P0 m0 hnw
  go_enter Tryz.func21, Tryz.ntmps21
  go_wp2_with fail
  go_loopw [] (fun wr => ∃ L', Hid (TickR K w wr B t p c oa cap next nw L D q L')) (fun wr => lenC p wr)
  case atStart => exact ⟨L, HR0⟩
  case round =>
    obtain ⟨L', HR⟩ := hrel
    clear HR0 c13 f13 hw0 hwr
    obtain ⟨wo, hwo⟩ : ∃ yy, yy = wr := ⟨_, rfl⟩
    subst hwo
    obtain ⟨K1, vw1, vd1, D1, P1, e1, e2, e3, m1⟩ := HR.out
    have c14 : wo.cell? ⟨p, 14, none⟩ = some vw1 := P1.ce (k := 14) rfl
    have d13 : wo.cell? ⟨p, 13, none⟩ = some (.int .i64 nw) := P1.ce (k := 13) rfl
    obtain ⟨o14, c14', ew, _, hg⟩ := P1.wr.form
    rw [List.length_map] at ew hg
    subst ew
    cases L' with
    | nil =>
      have HF : Hid (∀ k, ∃ K' vw' vd', PC K' (wo.drewN k) B t p c oa cap next nw (L.dropWhile (overB nw)) (D ++ (L.takeWhile (overB nw)).map (tOut nw)) vw' vd' q ∧ Mv (fun u => u = t ∨ u = t + 1 ∨ u = t + 2) w (wo.drewN k) K K') := fun k => by
        have e1' : L.dropWhile (overB nw) = [] := e1.symm
        have e2' : D ++ (L.takeWhile (overB nw)).map (tOut nw) = D1 := e2.symm.trans (List.append_nil D1)
        rw [e1', e2']
        exact ⟨K1, _, _, P1.to (mv_drewN wo K1 k) (fun _ e => e.elim), m1.trans ((mv_drewN wo K1 k).mono (fun _ e => e.elim))⟩
      clear P1 e1 e2 e3 m1 HR hg d13
      go_wp2_with fail
      go_quiet (fail)
      go_wp2
      first | go_end0 | ((try simp only [Exit.inBlock, Exit.then]); refine bodyPost_ret (results_none rfl _ _ _) rfl ?_)
      exact ⟨⟨_, rfl⟩, HF.out _⟩
    | cons x L' =>
      obtain ⟨g, rfl⟩ := hg (by simp)
      obtain ⟨n, hlen⟩ : ∃ n, (x :: L').length = n := ⟨_, rfl⟩
      have x0 : wo.cell? ⟨g, 0, none⟩ = some (ptr x.b) := by
        have := P1.wr.cell ptrL (by rw [List.length_map]) (j := 0) (x := x.b) rfl 0 (by omega)
        simpa [ptrC] using this
      have x5 : wo.cell? ⟨x.b, 5, none⟩ = some (.int .i64 x.fin) := cell_at (P1.cs x (by simp)).me.at_ rfl
      have hn0 : (0 : Int) < (n : Int) := by rw [← hlen]; simp
      have hnn : 0 < n := by omega
      have hmz : lenC p wo = n := by unfold lenC; rw [c14]; exact hlen
      rw [hlen] at c14
      obtain ⟨fin, hfin⟩ : ∃ fin, x.fin = fin := ⟨_, rfl⟩
      rw [hfin] at x5
      cases eo : decide (fin ≤ nw)
      · have HF : Hid (∀ k, ∃ K' vw' vd', PC K' (wo.drewN k) B t p c oa cap next nw (L.dropWhile (overB nw)) (D ++ (L.takeWhile (overB nw)).map (tOut nw)) vw' vd' q ∧ Mv (fun u => u = t ∨ u = t + 1 ∨ u = t + 2) w (wo.drewN k) K K') := fun k => by
          have eb : overB nw x = false := by unfold overB; rw [hfin]; exact eo
          have e1' : L.dropWhile (overB nw) = x :: L' := e1.symm.trans (List.dropWhile_cons_of_neg (by simp [eb]))
          have e2' : D ++ (L.takeWhile (overB nw)).map (tOut nw) = D1 := e2.symm.trans (by rw [List.takeWhile_cons_of_neg (by simp [eb])]; exact List.append_nil D1)
          rw [e1', e2']
          exact ⟨K1, _, _, P1.to (mv_drewN wo K1 k) (fun _ e => e.elim), m1.trans ((mv_drewN wo K1 k).mono (fun _ e => e.elim))⟩
        clear P1 e1 e2 e3 m1 HR hg hfin hlen hmz
        go_wp2_with fail
        go_quiet (fail)
        go_wp2
        first | go_end0 | ((try simp only [Exit.inBlock, Exit.then]); refine bodyPost_ret (results_none rfl _ _ _) rfl ?_)
        exact ⟨⟨_, rfl⟩, HF.out _⟩
      · have HC : Hid (∀ k, Calls Tryz.prog 58 #[ptr p, .int .i64 0, .agg #[.int .i64 0, .int .i64 2, .int .i64 0, .int .i64 0, .int .i64 0, .int .i64 0, .int .i64 0, .string ⟨#[]⟩, .int .i64 0]] (wo.drewN k) fun e w' => (∃ v, e = .returned v) ∧ Hid (TickR K w w' B t p c oa cap next nw L D q L' ∧ lenC p w' < n)) := fun k => by
          have P2 := P1.to (mv_drewN wo K1 k) (fun _ e => e.elim)
          have hDD := HD.out
          refine (PC.finish_any (L1 := []) (L2 := L') (x := x) P2 ⟨0, 2, 0, 0, 0, 0, 0, [], 0⟩ (by simp at e3; omega) (by simp)).mono ?_
          rintro e w' ⟨he, hf⟩
          obtain ⟨K', vw', vd', P3, m3⟩ := hf.out
          refine ⟨he, ⟨K', vw', vd', _, P3, ?_, ?_, ?_, m1.trans (((mv_drewN wo K1 k).mono (fun _ e => e.elim)).trans m3)⟩, ?_⟩
          · have eb : overB nw x = true := by unfold overB; rw [hfin]; exact eo
            rw [← e1, List.dropWhile_cons_of_pos eb]
            (try rfl)
          · have eb : overB nw x = true := by unfold overB; rw [hfin]; exact eo
            rw [← e2, List.takeWhile_cons_of_pos eb]
            simp [tOut]
          · simp at e3 ⊢
            (try omega)
          · obtain ⟨o3, c3, ev, _, _⟩ := P3.wr.form
            have := P3.ce (k := 14) rfl
            unfold lenC
            rw [this, ev, ← hlen]
            simp
        have hb80 := fun w => bld80 w
        clear P1 e1 e2 e3 m1 HR hg hfin hlen
        go_wp2_with fail
        go_quiet (fail)
        go_wp2_with fail
        refine (HC.out _).mono ?_
        rintro _ w3 ⟨⟨v, rfl⟩, H3⟩
        clear HC
        go_wp2
        go_roundw
        case rel =>
          exact ⟨L', H3.out.1⟩
        case measure => rw [hmz]; exact H3.out.2
end
end Go.Proofs.YteejeemljhmgcaaGreatDoor.Cl
