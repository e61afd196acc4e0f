/- The waking call: its steps. The waking call. -/
import Derived.Test.YtfcbjcebkahehaaGreatDoorZbp
import Derived.Test.YtfcbjcebkahehaaGreatDoorZbk
namespace Go.Proofs.YtfcbjcebkahehaaGreatDoor.Cl
open Go.RowKit
def cf0 : Cf := ⟨65537, 5, 9, 2, 2, 8, 4, ⟨0, [], 0, 0, []⟩⟩
def cf9 : Cf := ⟨0, 0, 0, 0, 0, 0, 0, ⟨0, [], 0, 0, []⟩⟩
abbrev ag0 : Value := .agg #[.int .i64 65537, .int .i64 5, .int .i64 9, .int .i64 2, .int .i64 2, .int .i64 8, .int .i64 4, .int .i64 0, .string ⟨#[]⟩, .int .i64 0, .int .i64 0, .slice none 0 0]
abbrev ag9 : Value := .agg #[.int .i64 0, .int .i64 0, .int .i64 0, .int .i64 0, .int .i64 0, .int .i64 0, .int .i64 0, .int .i64 0, .string ⟨#[]⟩, .int .i64 0, .int .i64 0, .slice none 0 0]
theorem bld23 (w : World) : (Instr.build 23 #[(0, .int .i64 2), (1, .int .i64 8), (2, .int .i64 4)]).run Tryz.prog w = .ok (.agg #[.int .i64 2, .int .i64 8, .int .i64 4]) w := by kernel_rfl
theorem bld28 (w : World) : (Instr.build 28 #[(0, .int .i64 65537), (1, .int .i64 5), (2, .int .i64 9), (3, .int .i64 2), (4, .agg #[.int .i64 2, .int .i64 8, .int .i64 4])]).run Tryz.prog w = .ok ag0 w := by kernel_rfl
theorem bld28z (w : World) : (Instr.build 28 #[]).run Tryz.prog w = .ok ag9 w := by kernel_rfl
theorem bld80b (w : World) : (Instr.build 80 #[(0, .int .i64 9), (1, .int .i64 2), (8, .int .i64 22)]).run Tryz.prog w = .ok (.agg #[.int .i64 9, .int .i64 2, .int .i64 0, .int .i64 0, .int .i64 0, .int .i64 0, .int .i64 0, .string ⟨#[]⟩, .int .i64 22]) w := by kernel_rfl
theorem eql80 (w : World) : (binOp .eql 80 (.agg #[.int .i64 9, .int .i64 2, .int .i64 0, .int .i64 0, .int .i64 0, .int .i64 0, .int .i64 0, .string ⟨#[]⟩, .int .i64 22]) (.agg #[.int .i64 9, .int .i64 2, .int .i64 0, .int .i64 0, .int .i64 0, .int .i64 0, .int .i64 0, .string ⟨#[]⟩, .int .i64 22])).run Tryz.prog w = .ok (.bool true) w := by kernel_rfl
theorem ok0 : okC cf0 = true := by
  unfold okC cf0
  rw [decide_eq_true (by unfold SysP.may isW; simp)]
  rfl
theorem ok9 : okC cf9 = false := by
  unfold okC cf9
  rw [decide_eq_true (by unfold SysP.may isW; simp)]
  rfl
theorem tot0 : Pc.totalP 2 8 4 = 22 := by kernel_rfl
theorem run0 : runG 2 8 4 0 40 (0, 0) = (1, 2) := by kernel_rfl
theorem new0 (w : World) (hT : ErrT w) : Calls Tryz.prog 14 #[ag0] w fun e w' => ∃ p, e = .returned (.tuple #[ptr p, .int .i64 0]) ∧ NewC w w' cf0 p := by
  refine (new_any cf0 none 0 w hT (fun h => absurd h (by decide)) (by decide) (by decide) (fun _ e => by cases e) (by decide)).mono ?_
  rintro e w' (⟨h, _⟩ | ⟨_, h⟩)
  · rw [ok0] at h; cases h
  · exact h
theorem new9 (w : World) (hT : ErrT w) : Calls Tryz.prog 14 #[ag9] w fun e w' => e = .returned (.tuple #[.pointer none, .int .i64 170]) ∧ Below w.heap.size w w' := by
  refine (new_any cf9 none 0 w hT (fun h => absurd h (by decide)) (by decide) (by decide) (fun _ e => by cases e) (by decide)).mono ?_
  rintro e w' (⟨_, h⟩ | ⟨h, _⟩)
  · exact h
  · rw [ok9] at h; cases h
theorem config_any (w : World) : Calls Tryz.prog 18 #[] w fun e w' => e = .returned ag0 ∧ Below w.heap.size w w' := by
  obtain ⟨S0, hS0⟩ : ∃ S0, w.heap.size = S0 := ⟨_, rfl⟩
  have h1 := fun w => bld23 w
  have h2 := fun w => bld28 w
  go_enter Tryz.func18, Tryz.ntmps18
  go_wp2
  obtain ⟨w0, hw0⟩ : ∃ y, w.alloc (.cells #[.int .i64 65537, .int .i64 5, .int .i64 9, .int .i64 2, .int .i64 2, .int .i64 8, .int .i64 4, .int .i64 0, .string ⟨#[]⟩, .int .i64 0, .int .i64 0, .slice none 0 0] 28) = y := ⟨_, rfl⟩
  have k0 : w0.heap[S0]? = some (.cells #[.int .i64 65537, .int .i64 5, .int .i64 9, .int .i64 2, .int .i64 2, .int .i64 8, .int .i64 4, .int .i64 0, .string ⟨#[]⟩, .int .i64 0, .int .i64 0, .slice none 0 0] 28) := by rw [← hw0, ← hS0]; exact (MapKept.heap_alloc w _).1
  have b0 : Below w.heap.size w w0 := by rw [← hw0]; exact (Below.refl _ _).alloc (Nat.le_refl _) _
  have q0 : w0.cell? ⟨S0, 0, none⟩ = some (.int .i64 65537) := cell_at k0 rfl
  have q1 : w0.cell? ⟨S0, 1, none⟩ = some (.int .i64 5) := cell_at k0 rfl
  have q2 : w0.cell? ⟨S0, 2, none⟩ = some (.int .i64 9) := cell_at k0 rfl
  have q3 : w0.cell? ⟨S0, 3, none⟩ = some (.int .i64 2) := cell_at k0 rfl
  have q4 : w0.cell? ⟨S0, 4, none⟩ = some (.int .i64 2) := cell_at k0 rfl
  have q5 : w0.cell? ⟨S0, 5, none⟩ = some (.int .i64 8) := cell_at k0 rfl
  have q6 : w0.cell? ⟨S0, 6, none⟩ = some (.int .i64 4) := cell_at k0 rfl
  have q7 : w0.cell? ⟨S0, 7, none⟩ = some (.int .i64 0) := cell_at k0 rfl
  have q8 : w0.cell? ⟨S0, 8, none⟩ = some (.string ⟨#[]⟩) := cell_at k0 rfl
  have q9 : w0.cell? ⟨S0, 9, none⟩ = some (.int .i64 0) := cell_at k0 rfl
  have q10 : w0.cell? ⟨S0, 10, none⟩ = some (.int .i64 0) := cell_at k0 rfl
  have q11 : w0.cell? ⟨S0, 11, none⟩ = some (.slice none 0 0) := cell_at k0 rfl
  have HB := hid b0
  clear k0 b0
  rw [hw0]
  refine bodyPost_ret (v := ag0) (by simp [results, Tryz.results18, go_sem, q0, q1, q2, q3, q4, q5, q6, q7, q8, q9, q10, q11]) rfl ?_
  exact ⟨rfl, HB.out⟩
structure AP (w w' : World) (p : Nat) (next now : Int) (L : List Wt) (D : List Oc) (v : Value) (l : List Pk) : Prop where
  ex : ∃ K oa cap vw vd q, PC K w' w.heap.size 1 p cf0 oa cap next now L D vw vd q ∧ RW 78 3 pkC K w' w.heap.size 100 v l ∧ Mv (fun u => 1 ≤ u) w w' (fun _ => 0) K
theorem AP.below {w w' : World} {p : Nat} {next now : Int} {L : List Wt} {D : List Oc} {v : Value} {l : List Pk} (h : AP w w' p next now L D v l) : Below w.heap.size w w' := by
  obtain ⟨K, oa, cap, vw, vd, q, P, R, M⟩ := h.ex
  exact ⟨M.os, M.tape, M.output, M.size, fun b hb => M.kept b hb (by omega)⟩
theorem aw_new {w w1 w2 w3 : World} {p : Nat} (hT : ErrT w) (h1 : Below w.heap.size w w1) (h2 : NewC w1 w2 cf0 p) (h3 : Below w2.heap.size w2 w3) : AP w w3 p 9 0 [] [] (.slice none 0 0) [] := by
  have hl : 1 < w.heap.size := World.block_lt_of_cell? _ _ hT
  have hT1 : ErrT w1 := (World.cell?_of_block (a := ⟨1, 0, none⟩) (h1.block 1 hl)).trans hT
  obtain ⟨K2, q, oa, cap, P2, m2⟩ := h2.pc (ext w (fun _ => 0) (fun _ => 50)) w.heap.size 1 h1.size hl (fun b hb => by rw [ext_old hb]; omega) ok0 hT1
  have m1 := Mv.of_below h1 (fun _ => 0) (fun _ => 50)
  have m3 := Mv.of_below h3 K2 (fun _ => 50)
  exact ⟨⟨_, oa, cap, _, _, q, P2.below h3 (fun _ => 50), RW.nil _ _ _ _ _ _ _, (m1.mono (fun _ e => e.elim)).trans ((m2.mono (fun _ e => e.elim)).trans (m3.mono (fun _ e => e.elim)))⟩⟩
theorem aw_call {w w' : World} {p : Nat} (h : AP w w' p 9 0 [] [] (.slice none 0 0) []) : Calls Tryz.prog 19 #[ptr p, .int .i64 65636, .int .i64 7, .int .i64 1, .int .i64 2, .string ⟨#[97, 98, 99, 100]⟩] w' fun e w'' => e = .returned (.tuple #[.int .i64 9, .int .i64 0]) ∧ ∃ x, Hid (x.isNew 65636 7 1 2 [97, 98, 99, 100] 0 22 9 ∧ AP w w'' p 10 0 [x] [] (.slice none 0 0) []) := by
  obtain ⟨K, oa, cap, vw, vd, q, P, R, M⟩ := h.ex
  refine (P.call_any 65636 7 1 2 [97, 98, 99, 100] (by decide) (by decide) (by decide) (by decide) (by decide)).mono ?_
  rintro e w'' ⟨rfl, K', x, vw', vd', P', ⟨fin, hf, hx⟩, m⟩
  refine ⟨rfl, x, ?_, ⟨K', oa, cap, vw', vd', q, P', RW.nil _ _ _ _ _ _ _, M.trans (m.mono (fun u e => by omega))⟩⟩
  have : fin = 22 := by rw [← hf]; show IntKind.i64.wrap (0 + Pc.totalP 2 8 4) = 22; rw [tot0]; rfl
  rw [← this]
  exact hx
theorem fine0 {x : Wt} (h : x.isNew 65636 7 1 2 [97, 98, 99, 100] 0 22 9) : x.fine := by
  obtain ⟨_, _, _, _, h5, h6, h7, _, h9, _, _⟩ := h
  unfold Wt.fine
  rw [h5, h6, h7, h9]
  decide
theorem due0 {x : Wt} (h : x.isNew 65636 7 1 2 [97, 98, 99, 100] 0 22 9) : dueW cf0 0 x = true ∧ (givW cf0 0 x).snd = 1 ∧ (givW cf0 0 x).due = 2 := by
  obtain ⟨_, _, _, _, _, h6, h7, _, _, _, _⟩ := h
  unfold dueW givW
  rw [h6, h7]
  show dueB 4 0 0 0 = true ∧ (runG 2 8 4 0 40 (0, 0)).1 = 1 ∧ (runG 2 8 4 0 40 (0, 0)).2 = 2
  rw [run0]
  exact ⟨by decide, rfl, rfl⟩
theorem aw_due {w w' : World} {p : Nat} {x : Wt} (hx : x.isNew 65636 7 1 2 [97, 98, 99, 100] 0 22 9) (h : AP w w' p 10 0 [x] [] (.slice none 0 0) []) : Calls Tryz.prog 20 #[ptr p] w' fun e w'' => ∃ v, e = .returned v ∧ Hid (AP w w'' p 10 0 [givW cf0 0 x] [] v [⟨65537, 65636, x.data cf0 9⟩]) := by
  obtain ⟨K, oa, cap, vw, vd, q, P, R, M⟩ := h.ex
  refine (P.due_any 100 (by omega) (fun y hy => by simp at hy; rw [hy]; exact fine0 hx) (by simp)).mono ?_
  rintro e w'' ⟨v, rfl, hh⟩
  obtain ⟨K', P', R', m⟩ := hh.out
  refine ⟨v, rfl, ⟨K', oa, cap, vw, vd, q, ?_, ?_, M.trans (m.mono (fun u e => by omega))⟩⟩
  · simpa [dueL, (due0 hx).1] using P'
  · have e1 : pksL cf0 (waterL 10 [x]) 0 [x] = [⟨65537, 65636, x.data cf0 9⟩] := by
      simp [pksL, (due0 hx).1, waterL]
      exact ⟨rfl, hx.1, by rw [hx.2.2.2.2.2.2.2.2.2.2]⟩
    rw [← e1]
    exact R'
theorem aw_due2 {w w' : World} {p : Nat} {x : Wt} {v : Value} {l : List Pk} (hx : x.isNew 65636 7 1 2 [97, 98, 99, 100] 0 22 9) (h : AP w w' p 10 0 [givW cf0 0 x] [] v l) : Calls Tryz.prog 20 #[ptr p] w' fun e w'' => ∃ o c, e = .returned (.slice o 0 c) ∧ Hid (AP w w'' p 10 0 [givW cf0 0 x] [] v l) := by
  obtain ⟨K, oa, cap, vw, vd, q, P, R, M⟩ := h.ex
  obtain ⟨_, d1, d2⟩ := due0 hx
  have hd : dueW cf0 0 (givW cf0 0 x) = false := by unfold dueW; rw [d1, d2]; decide
  have hf := fine0 hx
  refine (P.due_any 101 (by omega) (fun y hy => ?_) (by simp)).mono ?_
  · simp at hy
    rw [hy]
    have h9 : x.tms = 0 := hx.2.2.2.2.2.2.2.2.1
    refine ⟨by rw [d1]; decide, by rw [d2]; decide, ?_, hf.2.2.2⟩
    show 0 ≤ x.tms + 1 ∧ x.tms + 1 ≤ 1000000000000
    rw [h9]; decide
  rintro e w'' ⟨v', rfl, hh⟩
  obtain ⟨K', P', R', m⟩ := hh.out
  obtain ⟨o, c, ev, _, _⟩ := R'.form
  have e0 : (pksL cf0 (waterL 10 [givW cf0 0 x]) 0 [givW cf0 0 x]).length = 0 := by simp [pksL, hd]
  rw [e0] at ev
  refine ⟨o, c, by rw [ev], ⟨K', oa, cap, vw, vd, q, ?_, R.mv m (by omega), M.trans (m.mono (fun u e => by omega))⟩⟩
  simpa [dueL, hd] using P'
def lst (x : Wt) (i : Nat) : List Wt := if i < 22 then [x] else []
def outs (x : Wt) (i : Nat) : List Oc := if i < 22 then [] else [tOut 22 x]
theorem aw_tick {w w' : World} {p : Nat} {x : Wt} {v : Value} {l : List Pk} (hx : x.fin = 22) (i : Nat) (hi : i < 22) (h : AP w w' p 10 (i : Int) (lst x i) (outs x i) v l) : Calls Tryz.prog 21 #[ptr p] w' fun e w'' => (∃ v, e = .returned v) ∧ Hid (AP w w'' p 10 ((i + 1 : Nat) : Int) (lst x (i + 1)) (outs x (i + 1)) v l) := by
  obtain ⟨K, oa, cap, vw, vd, q, P, R, M⟩ := h.ex
  have hl : lst x i = [x] := if_pos hi
  have ho : outs x i = [] := if_pos hi
  rw [hl, ho] at P
  refine (P.tick_any (by omega) (by simp)).mono ?_
  rintro e w'' ⟨he, hh⟩
  obtain ⟨K', vw', vd', P', m⟩ := hh.out
  refine ⟨he, ⟨K', oa, cap, vw', vd', q, ?_, R.mv m (by omega), M.trans (m.mono (fun u e => by omega))⟩⟩
  have hc : (((i + 1 : Nat) : Int)) = (i : Int) + 1 := by omega
  rw [hc]
  by_cases h2 : i + 1 < 22
  · have ob : overB ((i : Int) + 1) x = false := by unfold overB; rw [hx]; exact decide_eq_false (by omega)
    have l2 : lst x (i + 1) = [x] := if_pos h2
    have o2 : outs x (i + 1) = [] := if_pos h2
    rw [l2, o2]
    simpa [List.dropWhile, List.takeWhile, ob] using P'
  · have h3 : (i : Int) + 1 = 22 := by omega
    have ob : overB ((i : Int) + 1) x = true := by unfold overB; rw [hx]; exact decide_eq_true (by omega)
    have l2 : lst x (i + 1) = [] := if_neg h2
    have o2 : outs x (i + 1) = [tOut 22 x] := if_neg h2
    rw [l2, o2]
    rw [h3] at P' ob ⊢
    simpa [List.dropWhile, List.takeWhile, ob] using P'
theorem aw_done {w w' : World} {p : Nat} {x : Wt} {v : Value} {d : List UInt8} (hs : x.seq = 9) (h : AP w w' p 10 22 [] [tOut 22 x] v [⟨65537, 65636, d⟩]) : Calls Tryz.prog 22 #[ptr p] w' fun e w'' => ∃ g1 c1 g2 c2, v = .slice (some ⟨g1, 0, none⟩) 1 c1 ∧ e = .returned (.slice (some ⟨g2, 0, none⟩) 1 c2) ∧ (w''.cell? ⟨g1, 0, none⟩ = some (.int .i64 65537) ∧ w''.cell? ⟨g1, 1, none⟩ = some (.int .i64 65636)) ∧ (w''.cell? ⟨g2, 0, none⟩ = some (.int .i64 9) ∧ w''.cell? ⟨g2, 1, none⟩ = some (.int .i64 2) ∧ w''.cell? ⟨g2, 2, none⟩ = some (.int .i64 0) ∧ w''.cell? ⟨g2, 3, none⟩ = some (.int .i64 0) ∧ w''.cell? ⟨g2, 4, none⟩ = some (.int .i64 0) ∧ w''.cell? ⟨g2, 5, none⟩ = some (.int .i64 0) ∧ w''.cell? ⟨g2, 6, none⟩ = some (.int .i64 0) ∧ w''.cell? ⟨g2, 7, none⟩ = some (.string ⟨#[]⟩) ∧ w''.cell? ⟨g2, 8, none⟩ = some (.int .i64 22)) ∧ Hid (AP w w'' p 10 22 [] [] v [⟨65537, 65636, d⟩]) := by
  obtain ⟨K, oa, cap, vw, vd, q, P, R, M⟩ := h.ex
  refine P.done_any.mono ?_
  rintro e w'' ⟨rfl, P', R', m⟩
  have R1 := R.mv m (by omega)
  obtain ⟨o1, c1, e1, _, hg1⟩ := R1.form
  obtain ⟨g1, rfl⟩ := hg1 (by simp)
  obtain ⟨o2, c2, e2, _, hg2⟩ := R'.form
  obtain ⟨g2, rfl⟩ := hg2 (by simp)
  subst e1
  subst e2
  have a := fun k hk => R1.cell pkL rfl (j := 0) rfl k hk
  have b := fun k hk => R'.cell ocL rfl (j := 0) rfl k hk
  refine ⟨g1, c1, g2, c2, rfl, rfl, ⟨?_, ?_⟩, ⟨?_, ?_, ?_, ?_, ?_, ?_, ?_, ?_, ?_⟩, ⟨K, oa, cap, vw, _, q, P', R1, M.trans (m.mono (fun u e => by omega))⟩⟩
  · simpa [pkC] using a 0 (by omega)
  · simpa [pkC] using a 1 (by omega)
  · simpa [ocC, tOut, hs] using b 0 (by omega)
  · simpa [ocC, tOut] using b 1 (by omega)
  · simpa [ocC, tOut] using b 2 (by omega)
  · simpa [ocC, tOut] using b 3 (by omega)
  · simpa [ocC, tOut] using b 4 (by omega)
  · simpa [ocC, tOut] using b 5 (by omega)
  · simpa [ocC, tOut] using b 6 (by omega)
  · simpa [ocC, tOut] using b 7 (by omega)
  · simpa [ocC, tOut] using b 8 (by omega)
theorem aw_ends {w w' : World} {p : Nat} {v : Value} {l : List Pk} (h : AP w w' p 10 22 [] [] v l) : Calls Tryz.prog 23 #[ptr p] w' (fun e w'' => e = .returned (.int .i64 10) ∧ w'' = w') ∧ Calls Tryz.prog 24 #[ptr p] w' (fun e w'' => e = .returned (.int .i64 22) ∧ w'' = w') := by
  obtain ⟨K, oa, cap, vw, vd, q, P, R, M⟩ := h.ex
  exact ⟨P.water_any, P.now_any⟩
end Go.Proofs.YtfcbjcebkahehaaGreatDoor.Cl
namespace Go.Proofs.YtfcbjcebkahehaaGreatDoor.Cl
open Go.RowKit
set_option maxRecDepth 8000 in
set_option maxHeartbeats 8000000 in
theorem awake_any (w : World) (hT : ErrT w) : Calls Tryz.prog 7 #[] w fun e w' => e = .returned (.bool true) ∧ Below w.heap.size w w' := by
  have hl : 1 < w.heap.size := World.block_lt_of_cell? _ _ hT
  have HE : Hid (∀ w', Below w.heap.size w w' → ErrT w') := fun w' h => (World.cell?_of_block (a := ⟨1, 0, none⟩) (h.block 1 hl)).trans hT
  have HT := hid hT
  have HC := hid (config_any w)
  have hz := fun w => bld28z w
  clear hT hl
  go_enter Tryz.func7, Tryz.ntmps7
  go_wp2_with fail
  refine HC.out.mono ?_
  rintro _ w1 ⟨rfl, hb1⟩
  have HB1 := hid hb1
  have H0 := hid (new0 w1 (HE.out w1 hb1))
  clear HC hb1
  go_wp2_with fail
  refine H0.out.mono ?_
  rintro _ w2 ⟨p, rfl, hN⟩
  have HN := hid hN
  have b12 := hN.be
  have H9 := hid (new9 w2 (HE.out w2 (HB1.out.trans (b12.mono HB1.out.size))))
  clear H0 hN b12
  go_wp2_with fail
  refine H9.out.mono ?_
  rintro _ w3 ⟨rfl, hb3⟩
  have HA3 := hid (aw_new HT.out HB1.out HN.out hb3)
  have H4 := hid (aw_call HA3.out)
  clear H9 hb3 HN HB1 HE HA3
  go_wp2_with fail
  refine H4.out.mono ?_
  rintro _ w4 ⟨rfl, x, HX⟩
  have H5 := hid (aw_due HX.out.1 HX.out.2)
  clear H4
  go_wp2_with fail
  refine H5.out.mono ?_
  rintro _ w5 ⟨v5, rfl, HA5⟩
  have H6 := hid (aw_due2 HX.out.1 HA5.out)
  clear H5 HA5
  go_wp2_with fail
  refine H6.out.mono ?_
  rintro _ w6 ⟨o6, c6, rfl, HA6⟩
  have HQ : Hid ((givW cf0 0 x).fin = 22 ∧ (givW cf0 0 x).seq = 9) := ⟨HX.out.1.2.2.2.2.2.2.2.1, HX.out.1.2.2.2.2.2.2.2.2.2.2⟩
  have HP : Hid (AP w w6 p 10 ((0 : Nat) : Int) (lst (givW cf0 0 x) 0) (outs (givW cf0 0 x) 0) v5 [⟨65537, 65636, x.data cf0 9⟩]) := HA6.out
  obtain ⟨y, hy⟩ : ∃ y, givW cf0 0 x = y := ⟨_, rfl⟩
  obtain ⟨d, hd⟩ : ∃ d, x.data cf0 9 = d := ⟨_, rfl⟩
  rw [hy] at HQ HP
  rw [hd] at HP
  clear H6 HA6 HX hy hd
  go_wp2_with fail
  go_loopw [9] (fun u9 wr => ∃ j : Nat, u9 = .int .i64 (j : Int) ∧ j ≤ 22 ∧ Hid (AP w wr p 10 (j : Int) (lst y j) (outs y j) v5 [⟨65537, 65636, d⟩])) (fun u9 _ => 22 - (intOf u9).toNat)
  case atStart => exact ⟨0, rfl, by omega, HP.out⟩
  case round =>
    obtain ⟨j, rfl, hj, HR⟩ := hrel
    clear HP
    obtain ⟨wo, hwo⟩ : ∃ yy, yy = wr := ⟨_, rfl⟩
    subst hwo
    by_cases hlt : j < 22
    · have hji : (j : Int) < 22 := by omega
      have HTk := hid (aw_tick HQ.out.1 j hlt HR.out)
      have hj1 : wrap64 ((j : Int) + 1) = (j : Int) + 1 := wrapS (by omega)
      clear HR
      go_wp2_with fail
      refine HTk.out.mono ?_
      rintro _ w7 ⟨⟨v7, rfl⟩, H7⟩
      clear HTk
      go_wp2
      go_roundw
      case rel => exact ⟨j + 1, by simp, by omega, H7.out⟩
      case measure => exact meas (n := 22) rfl (by omega)
    · obtain rfl : j = 22 := by omega
      have HD := hid (aw_done HQ.out.2 HR.out)
      clear HR hlt hj
      rw [show ((22 : Nat) : Int) = 22 from rfl]
      go_wp2_with fail
      refine HD.out.mono ?_
      rintro _ w8 ⟨g1, c1, g2, c2, hv5, rfl, ⟨p0, p1⟩, ⟨q0, q1, q2, q3, q4, q5, q6, q7, q8⟩, HF⟩
      subst hv5
      have HW := hid (aw_ends HF.out)
      have HBe := hid HF.out.below
      have hb80 := fun w => bld80b w
      have he80 := fun w => eql80 w
      clear HD HF
      go_wp2_with fail
      refine HW.out.1.mono ?_
      rintro _ _ ⟨rfl, rfl⟩
      go_wp2_with fail
      refine HW.out.2.mono ?_
      rintro _ _ ⟨rfl, rfl⟩
      go_wp2
      go_ret
      exact ⟨rfl, HBe.out⟩
end Go.Proofs.YtfcbjcebkahehaaGreatDoor.Cl
