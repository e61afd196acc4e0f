/- The client: a call that is due, and given. The client: kept; Done; who is refused. -/
import Derived.Test.YtfcbjcebkahehaaGreatDoorJh
namespace Go.Proofs.YtfcbjcebkahehaaGreatDoor.Cl
open Go.RowKit
abbrev paB (b c t : Int) : Obj := .cells #[.int .i64 b, .int .i64 c, .int .i64 t] 23
def dueB (pt now snd due : Int) : Bool := decide (snd < pt) && decide (due ≤ now)
theorem isDue_any (pb pc pt now snd due : Int) (b : Nat) (w : World) (h3 : w.cell? ⟨b, 3, none⟩ = some (.int .i64 snd)) (h4 : w.cell? ⟨b, 4, none⟩ = some (.int .i64 due)) :
    Calls Tryz.prog 56 #[ptr b, .agg #[.int .i64 pb, .int .i64 pc, .int .i64 pt], .int .i64 now] w fun e w' => e = .returned (.bool (dueB pt now snd due)) ∧ Below w.heap.size w w' := by
  obtain ⟨w0, hw0⟩ : ∃ w0, w.alloc (paB pb pc pt) = w0 := ⟨_, rfl⟩
  obtain ⟨S0, hS0⟩ : ∃ S0, w.heap.size = S0 := ⟨_, rfl⟩
  have B0 : Below w.heap.size w w0 := by rw [← hw0]; exact (Below.refl _ _).alloc (Nat.le_refl _) _
  have k0 : w0.heap[S0]? = some (paB pb pc pt) := by rw [← hw0, ← hS0]; exact (MapKept.heap_alloc w _).1
  have c2 : w0.cell? ⟨S0, 2, none⟩ = some (.int .i64 pt) := cell_at k0 rfl
  have d3 : w0.cell? ⟨b, 3, none⟩ = some (.int .i64 snd) := (World.cell?_of_block (a := ⟨b, 3, none⟩) (B0.block b (World.block_lt_of_cell? _ _ h3))).trans h3
  have d4 : w0.cell? ⟨b, 4, none⟩ = some (.int .i64 due) := (World.cell?_of_block (a := ⟨b, 4, none⟩) (B0.block b (World.block_lt_of_cell? _ _ h4))).trans h4
  have HB : Hid (∀ n, Below w.heap.size w (w0.drewN n)) := fun n => ⟨B0.os, B0.tape, B0.output, B0.size, B0.block⟩
  unfold dueB
  rw [hS0] at HB ⊢
  clear h3 h4 k0 B0
  cases e1 : decide (snd < pt)
  · go_enter Tryz.func56, Tryz.ntmps56
    go_wp2_with fail
    go_quiet (fail)
    go_wp2
    go_ret
    exact ⟨rfl, HB.out _⟩
  · cases e2 : decide (due ≤ now)
    all_goals (
      go_enter Tryz.func56, Tryz.ntmps56
      go_wp2_with fail
      go_quiet (fail)
      go_wp2
      go_ret
      exact ⟨rfl, HB.out _⟩)
/-- how far the sendings are that are due -/
def runG (pb pc pt now : Int) : Nat → Int × Int → Int × Int
  | 0, s => s
  | k + 1, s => if dueB pt now s.1 s.2 then runG pb pc pt now k (s.1 + 1, s.2 + Pc.waitP pb pc pt s.1) else s
theorem runG_stop {pb pc pt now : Int} {s : Int × Int} (h : dueB pt now s.1 s.2 = false) : ∀ k, runG pb pc pt now k s = s
  | 0 => rfl
  | k + 1 => by show (if dueB pt now s.1 s.2 then _ else s) = s; rw [h]; simp
theorem runG_go {pb pc pt now : Int} {s : Int × Int} (h : dueB pt now s.1 s.2 = true) (k : Nat) : runG pb pc pt now (k + 1) s = runG pb pc pt now k (s.1 + 1, s.2 + Pc.waitP pb pc pt s.1) := by
  show (if dueB pt now s.1 s.2 then _ else s) = _; rw [h]; simp
abbrev gvB (q0 q1 f : Value) (snd due fin tms last : Int) : Obj := .cells #[q0, q1, f, .int .i64 snd, .int .i64 due, .int .i64 fin, .int .i64 tms, .int .i64 last] 113
def numC (b : Nat) (w : World) : Int := match w.cell? ⟨b, 3, none⟩ with | some (.int _ n) => n | _ => 0
/-- while it is given -/
structure Gv (w0 w : World) (b S0 : Nat) (q0 q1 f : Value) (pb pc pt snd due fin tms last : Int) : Prop where
  at_ : w.heap[b]? = some (gvB q0 q1 f snd due fin tms last)
  box : w.heap[S0]? = some (paB pb pc pt)
  fr : w0.grownBy w (some b)
  lt : b < S0
theorem grown_below {w0 w w' : World} {b : Nat} (h : w0.grownBy w (some b)) (hb : Below w.heap.size w w') : w0.grownBy w' (some b) :=
  ⟨hb.os.trans h.os, hb.tape.trans h.tape, hb.output.trans h.output, Nat.le_trans h.size hb.size, fun k hk hn => (hb.block k (Nat.lt_of_lt_of_le hk h.size)).trans (h.block k hk hn)⟩
theorem grown_set {w0 w : World} {b k : Nat} {v : Value} (h : w0.grownBy w (some b)) : w0.grownBy (w.setCell ⟨b, k, none⟩ v) (some b) :=
  ⟨h.os, h.tape, h.output, by simpa [World.setCell] using h.size, fun i hi hn => by rw [Below.heap_setCell _ _ _ _ (show i ≠ b from fun e => hn (by rw [e]))]; exact h.block i hi hn⟩
theorem Gv.below {w0 w w' : World} {b S0 : Nat} {q0 q1 f : Value} {pb pc pt snd due fin tms last : Int} (h : Gv w0 w b S0 q0 q1 f pb pc pt snd due fin tms last) (hb : Below w.heap.size w w') : Gv w0 w' b S0 q0 q1 f pb pc pt snd due fin tms last :=
  ⟨(hb.block b (Array.getElem?_eq_some_iff.1 h.at_).1).trans h.at_, (hb.block S0 (Array.getElem?_eq_some_iff.1 h.box).1).trans h.box, grown_below h.fr hb, h.lt⟩
theorem Gv.set {w0 w : World} {b S0 : Nat} {q0 q1 f : Value} {pb pc pt snd due fin tms last : Int} (h : Gv w0 w b S0 q0 q1 f pb pc pt snd due fin tms last) (n : Int) :
    Gv w0 (w.setCell ⟨b, 3, none⟩ (.int .i64 n)) b S0 q0 q1 f pb pc pt n due fin tms last ∧ Gv w0 (w.setCell ⟨b, 4, none⟩ (.int .i64 n)) b S0 q0 q1 f pb pc pt snd n fin tms last ∧ Gv w0 (w.setCell ⟨b, 6, none⟩ (.int .i64 n)) b S0 q0 q1 f pb pc pt snd due fin n last ∧ Gv w0 (w.setCell ⟨b, 7, none⟩ (.int .i64 n)) b S0 q0 q1 f pb pc pt snd due fin tms n := by
  have hne : S0 ≠ b := by have := h.lt; omega
  have hb : ∀ k v, (w.setCell ⟨b, k, none⟩ v).heap[S0]? = some (paB pb pc pt) := fun k v => (Below.heap_setCell _ _ _ _ hne).trans h.box
  exact ⟨⟨set_at h.at_ 3 _, hb _ _, grown_set h.fr, h.lt⟩, ⟨set_at h.at_ 4 _, hb _ _, grown_set h.fr, h.lt⟩, ⟨set_at h.at_ 6 _, hb _ _, grown_set h.fr, h.lt⟩, ⟨set_at h.at_ 7 _, hb _ _, grown_set h.fr, h.lt⟩⟩
set_option maxRecDepth 8000 in
set_option maxHeartbeats 4000000 in
theorem give_any (b : Nat) (q0 q1 f : Value) (pb pc pt now snd due fin tms last : Int) (w : World) (h : w.heap[b]? = some (gvB q0 q1 f snd due fin tms last)) (hs : 0 ≤ snd) (hp : pt ≤ 32) (hd : -1000000000000 ≤ due ∧ due ≤ 1000000000000) (ht : 0 ≤ tms ∧ tms ≤ 1000000000000) :
    Calls Tryz.prog 57 #[ptr b, .agg #[.int .i64 pb, .int .i64 pc, .int .i64 pt], .int .i64 now] w fun e w' => (∃ v, e = .returned v) ∧ w'.heap[b]? = some (gvB q0 q1 f (runG pb pc pt now 40 (snd, due)).1 (runG pb pc pt now 40 (snd, due)).2 fin (tms + 1) now) ∧ w.grownBy w' (some b) := by
  obtain ⟨w0, hw0⟩ : ∃ w0, w.alloc (paB pb pc pt) = w0 := ⟨_, rfl⟩
  obtain ⟨S0, hS0⟩ : ∃ S0, w.heap.size = S0 := ⟨_, rfl⟩
  have hlt : b < w.heap.size := (Array.getElem?_eq_some_iff.1 h).1
  have HG : Hid (Gv w w0 b S0 q0 q1 f pb pc pt snd due fin tms last) := by
    refine ⟨?_, ?_, ?_, by omega⟩
    · rw [← hw0]; exact (Below.heap_alloc _ _ _ hlt).trans h
    · rw [← hw0, ← hS0]; exact (MapKept.heap_alloc w _).1
    · rw [← hw0]; exact ⟨rfl, rfl, rfl, by simp, fun k hk _ => Below.heap_alloc _ _ _ hk⟩
  have HH : Hid (0 ≤ snd ∧ pt ≤ 32 ∧ (-1000000000000 ≤ due ∧ due ≤ 1000000000000)) := ⟨hs, hp, hd⟩
  have HT : Hid (0 ≤ tms ∧ tms ≤ 1000000000000) := ht
  clear h hlt hs hp hd ht
  go_enter Tryz.func57, Tryz.ntmps57
  go_wp2_with fail
  go_loopw [] (fun wr => ∃ (j : Nat) (s d : Int), Hid (Gv w wr b S0 q0 q1 f pb pc pt s d fin tms last ∧ s = snd + j ∧ j ≤ 40 ∧ (d ≤ due + j * 1048576 ∧ due ≤ d) ∧ runG pb pc pt now 40 (snd, due) = runG pb pc pt now (40 - j) (s, d))) (fun wr => (40 - (numC b wr)).toNat)
  case atStart => exact ⟨0, snd, due, HG.out, by omega, by omega, by omega, rfl⟩
  case round =>
    obtain ⟨j, s, d, HR⟩ := hrel
    clear HG
    obtain ⟨wo, hwo⟩ : ∃ yy, yy = wr := ⟨_, rfl⟩
    subst hwo
    have p0 : wo.cell? ⟨S0, 0, none⟩ = some (.int .i64 pb) := cell_at HR.out.1.box rfl
    have p1 : wo.cell? ⟨S0, 1, none⟩ = some (.int .i64 pc) := cell_at HR.out.1.box rfl
    have p2 : wo.cell? ⟨S0, 2, none⟩ = some (.int .i64 pt) := cell_at HR.out.1.box rfl
    have HD := hid (isDue_any pb pc pt now s d b wo (cell_at HR.out.1.at_ rfl) (cell_at HR.out.1.at_ rfl))
    obtain ⟨bd, hbd⟩ : ∃ bd, dueB pt now s d = bd := ⟨_, rfl⟩
    rw [hbd] at HD
    have HBD := hid hbd
    clear hbd
    go_wp2_with fail
    refine HD.out.mono ?_
    rintro _ w1 ⟨rfl, hb1⟩
    have HG1 := hid (HR.out.1.below hb1)
    clear HD p0 p1 p2 hb1
    cases bd
    · have HF := runG_stop (s := (s, d)) (pb := pb) (pc := pc) HBD.out (40 - j)
      have hrun : runG pb pc pt now 40 (snd, due) = (s, d) := HR.out.2.2.2.2.trans HF
      have c6 : w1.cell? ⟨b, 6, none⟩ = some (.int .i64 tms) := cell_at HG1.out.at_ rfl
      have f6 := frozen_at HG1.out.at_ 6
      have hwt : wrap64 (tms + 1) = tms + 1 := by have := HT.out; unfold wrap64; omega
      obtain ⟨w2, hw2⟩ : ∃ w2, w1.setCell ⟨b, 6, none⟩ (.int .i64 (tms + 1)) = w2 := ⟨_, rfl⟩
      have g2 := (HG1.out.set (tms + 1)).2.2.1
      rw [hw2] at g2
      have c7 : w2.cell? ⟨b, 7, none⟩ = some (.int .i64 last) := cell_at g2.at_ rfl
      have f7 := frozen_at g2.at_ 7
      obtain ⟨w3, hw3⟩ : ∃ w3, w2.setCell ⟨b, 7, none⟩ (.int .i64 now) = w3 := ⟨_, rfl⟩
      have g3 := (g2.set now).2.2.2
      rw [hw3] at g3
      have HE : Hid (w3.heap[b]? = some (gvB q0 q1 f (runG pb pc pt now 40 (snd, due)).1 (runG pb pc pt now 40 (snd, due)).2 fin (tms + 1) now) ∧ w.grownBy w3 (some b)) := ⟨by rw [hrun]; exact g3.at_, g3.fr⟩
      clear HR HG1 g2 g3 HF hrun HBD HH HT
      go_wp2
      first | go_end0 | ((try simp only [Exit.inBlock, Exit.then]); refine bodyPost_ret (results_none rfl _ _ _) rfl ?_)
      exact ⟨⟨_, rfl⟩, HE.out⟩
    · obtain ⟨wt, hwt⟩ : ∃ wt, Pc.waitP pb pc pt s = wt := ⟨_, rfl⟩
      have hwi := Pc.wait_in pb pc pt s
      rw [hwt] at hwi
      have hlt : s < pt := by
        have h1 := HBD.out
        unfold dueB at h1
        simp only [Bool.and_eq_true, decide_eq_true_eq] at h1
        exact h1.1
      have hhh := HH.out
      have hrr := HR.out.2
      have HWt : Hid (∀ w' : World, Calls Tryz.prog 91 #[.agg #[.int .i64 pb, .int .i64 pc, .int .i64 pt], .int .i64 s] w' fun e w'' => e = .returned (.int .i64 wt) ∧ Below w'.heap.size w' w'') := fun w' => by
        rw [← hwt]
        exact Pc.wait_any w' pb pc pt s (by omega)
      have hj40 : j < 40 := by omega
      have HRN : Hid (s + 1 = snd + (j + 1 : Nat) ∧ j + 1 ≤ 40 ∧ (d + wt ≤ due + (j + 1 : Nat) * 1048576 ∧ due ≤ d + wt) ∧ runG pb pc pt now 40 (snd, due) = runG pb pc pt now (40 - (j + 1)) (s + 1, d + wt)) := by
        refine ⟨by omega, by omega, by omega, ?_⟩
        rw [hrr.2.2.2, show 40 - j = (40 - (j + 1)) + 1 by omega, runG_go (s := (s, d)) HBD.out, hwt]
      have hdw : IntKind.i64.wrap (d + wt) = d + wt := by rw [IntWalk.i64_left]; unfold wrap64; omega
      have hs1 : wrap64 (s + 1) = s + 1 := by unfold wrap64; omega
      have HM : Hid (s < 40 ∧ 0 ≤ s) := ⟨by omega, by omega⟩
      have HN0 : Hid (numC b wo = s) := by
        show _ = _
        unfold numC
        rw [show wo.cell? ⟨b, 3, none⟩ = some (.int .i64 s) from cell_at HR.out.1.at_ rfl]
      clear hwi hlt hhh hrr hwt hj40 HR HBD HH HT
      go_wp2_with fail
      go_cut [20] (fun _ wx => Hid (Gv w wx b S0 q0 q1 f pb pc pt s (d + wt) fin tms last))
      case first =>
        have p0 : w1.cell? ⟨S0, 0, none⟩ = some (.int .i64 pb) := cell_at HG1.out.box rfl
        have p1 : w1.cell? ⟨S0, 1, none⟩ = some (.int .i64 pc) := cell_at HG1.out.box rfl
        have p2 : w1.cell? ⟨S0, 2, none⟩ = some (.int .i64 pt) := cell_at HG1.out.box rfl
        have a3 : w1.cell? ⟨b, 3, none⟩ = some (.int .i64 s) := cell_at HG1.out.at_ rfl
        have a4 : w1.cell? ⟨b, 4, none⟩ = some (.int .i64 d) := cell_at HG1.out.at_ rfl
        go_region_with (first
          | (go_at_call 91
             refine (HWt.out _).mono ?_
             rintro _ w3 ⟨rfl, hb3⟩
             have G3 := HG1.out.below (w' := w3) ⟨hb3.os, hb3.tape, hb3.output, hb3.size, hb3.block⟩
             have b4 : w3.cell? ⟨b, 4, none⟩ = some (.int .i64 d) := cell_at G3.at_ rfl
             have f4 := frozen_at G3.at_ 4
             have HG3 := hid G3
             clear G3 hb3))
        all_goals (
          go_wp2_with fail
          go_meet
          exact (HG3.out.set (d + wt)).2.1)
      case rest =>
        have G4 := hcut.out
        obtain ⟨w4, hw4⟩ : ∃ yy, yy = wc := ⟨_, rfl⟩
        subst hw4
        have a3 : w4.cell? ⟨b, 3, none⟩ = some (.int .i64 s) := cell_at G4.at_ rfl
        have f3 := frozen_at G4.at_ 3
        obtain ⟨w5, hw5⟩ : ∃ w5, w4.setCell ⟨b, 3, none⟩ (.int .i64 (s + 1)) = w5 := ⟨_, rfl⟩
        have g5 := (G4.set (s + 1)).1
        rw [hw5] at g5
        have HG5 := hid g5
        have HN5 : Hid (numC b w5 = s + 1) := by
          show _ = _
          unfold numC
          rw [show w5.cell? ⟨b, 3, none⟩ = some (.int .i64 (s + 1)) from cell_at g5.at_ rfl]
        clear G4 g5 hcut
        go_wp2
        go_roundw
        case rel => exact ⟨j + 1, s + 1, d + wt, HG5.out, HRN.out⟩
        case measure =>
          have h1 := HN0.out
          have h2 := HN5.out
          have h3 := HM.out
          simp only [h1, h2]
          omega
end Go.Proofs.YtfcbjcebkahehaaGreatDoor.Cl
namespace Go.Proofs.YtfcbjcebkahehaaGreatDoor.Cl
open Go.RowKit
section
variable {K K' : Nat → Nat} {w w' : World} {B t p : Nat} {c : Cf} {oa : Option Addr} {cap : Nat} {next now : Int} {L : List Wt} {D : List Oc} {vw vd : Value} {q : Mq}
theorem err_mv {T : Nat → Prop} (h : ErrT w) (m : Mv T w w' K K') (hk : ¬ T (K 1)) : ErrT w' := by
  have hs := h.size
  unfold ErrT at *
  rw [← h]
  exact World.cell?_of_block (a := ⟨1, 0, none⟩) (m.kept 1 hs hk)
theorem PC.er {T : Nat → Prop} (h : PC K w B t p c oa cap next now L D vw vd q) (m : Mv T w w' K K') (hl : ∀ t', T t' → t ≤ t') : ErrT w' := err_mv h.err m (fun e => by have := hl _ e; have := h.h0 1 h.b1; omega)
theorem PC.h0' {T : Nat → Prop} (h : PC K w B t p c oa cap next now L D vw vd q) (m : Mv T w w' K K') : ∀ b, b < B → K' b < t := fun b hb => by rw [m.old b (Nat.lt_of_lt_of_le hb h.hB)]; exact h.h0 b hb
theorem PC.to {T : Nat → Prop} (h : PC K w B t p c oa cap next now L D vw vd q) (m : Mv T w w' K K') (ht : ∀ t', T t' → t + 6 < t') : PC K' w' B t p c oa cap next now L D vw vd q := by
  have me := h.me
  have n : ∀ j, j ≤ 6 → ¬ T (t + j) := fun j hj e => by have := ht _ e; omega
  exact ⟨h.cl.mv m (n 0 (by omega)), h.wr.mv m (n 1 (by omega)), h.dn.mv m (n 2 (by omega)), fun x hx => (h.cs x hx).mv m (n 3 (by omega)) (n 4 (by omega)), h.nd, me.mv m (n 5 (by omega)), h.gs.mv m (n 6 (by omega)), h.gl, h.ok, Nat.le_trans h.hB m.size, h.er m (fun t' e => by have := ht _ e; omega), h.h0' m, h.b1⟩
theorem PC.below (h : PC K w B t p c oa cap next now L D vw vd q) (hb : Below w.heap.size w w') (N : Nat → Nat) : PC (ext w K N) w' B t p c oa cap next now L D vw vd q := h.to (Mv.of_below hb K N) (fun _ e => e.elim)
/-- one cell of the client's own block written -/
theorem PC.next_ (h : PC K w B t p c oa cap next now L D vw vd q) (n : Int) : PC K (w.setCell ⟨p, 12, none⟩ (.int .i64 n)) B t p c oa cap n now L D vw vd q ∧ Mv (fun x => x = t) w (w.setCell ⟨p, 12, none⟩ (.int .i64 n)) K K := by
  have m := Mv.of_set w K ⟨p, 12, none⟩ (.int .i64 n) h.cl.k
  have me := h.me
  exact ⟨⟨⟨set_at h.cl.at_ 12 _, h.cl.k⟩, h.wr.mv m (by omega), h.dn.mv m (by omega), fun x hx => (h.cs x hx).mv m (by omega) (by omega), h.nd, me.mv m (by omega), h.gs.mv m (by omega), h.gl, h.ok, Nat.le_trans h.hB m.size, h.er m (fun t' e => by omega), h.h0' m, h.b1⟩, m⟩
theorem PC.now_ (h : PC K w B t p c oa cap next now L D vw vd q) (n : Int) : PC K (w.setCell ⟨p, 13, none⟩ (.int .i64 n)) B t p c oa cap next n L D vw vd q ∧ Mv (fun x => x = t) w (w.setCell ⟨p, 13, none⟩ (.int .i64 n)) K K := by
  have m := Mv.of_set w K ⟨p, 13, none⟩ (.int .i64 n) h.cl.k
  have me := h.me
  exact ⟨⟨⟨set_at h.cl.at_ 13 _, h.cl.k⟩, h.wr.mv m (by omega), h.dn.mv m (by omega), fun x hx => (h.cs x hx).mv m (by omega) (by omega), h.nd, me.mv m (by omega), h.gs.mv m (by omega), h.gl, h.ok, Nat.le_trans h.hB m.size, h.er m (fun t' e => by omega), h.h0' m, h.b1⟩, m⟩
theorem PC.nodone (h : PC K w B t p c oa cap next now L D vw vd q) : PC K (w.setCell ⟨p, 15, none⟩ (.slice none 0 0)) B t p c oa cap next now L [] vw (.slice none 0 0) q ∧ Mv (fun x => x = t) w (w.setCell ⟨p, 15, none⟩ (.slice none 0 0)) K K := by
  have m := Mv.of_set w K ⟨p, 15, none⟩ (.slice none 0 0) h.cl.k
  have me := h.me
  exact ⟨⟨⟨set_at h.cl.at_ 15 _, h.cl.k⟩, h.wr.mv m (by omega), RW.nil _ _ _ _ _ _ _, fun x hx => (h.cs x hx).mv m (by omega) (by omega), h.nd, me.mv m (by omega), h.gs.mv m (by omega), h.gl, h.ok, Nat.le_trans h.hB m.size, h.er m (fun t' e => by omega), h.h0' m, h.b1⟩, m⟩
theorem PC.done_any (h : PC K w B t p c oa cap next now L D vw vd q) : Calls Tryz.prog 22 #[ptr p] w fun e w' => e = .returned vd ∧ PC K w' B t p c oa cap next now L [] vw (.slice none 0 0) q ∧ RW 80 9 ocC K w' B (t + 2) vd D ∧ Mv (fun x => x = t) w w' K K := by
  obtain ⟨o, cp, e, _, _⟩ := h.dn.form
  subst e
  have c15 := h.ce (k := 15) rfl
  have f15 := h.fz 15
  obtain ⟨w1, hw1⟩ : ∃ w1, w.setCell ⟨p, 15, none⟩ (.slice none 0 0) = w1 := ⟨_, rfl⟩
  have h1 := h.nodone
  have h2 := h.dn.mv h1.2 (by omega)
  rw [hw1] at h1 h2
  have HE := hid (And.intro h1.1 (And.intro h2 h1.2))
  clear h h1 h2
  go_enter Tryz.func22, Tryz.ntmps22
  go_wp2
  go_ret
  exact ⟨rfl, HE.out⟩
end
end Go.Proofs.YtfcbjcebkahehaaGreatDoor.Cl
