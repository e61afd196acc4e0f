/- CachePlays: two pairs of caches in memory; New of both. -/
import Derived.Test.YtnpffhgmakbdnaaPlTa
namespace Go.Proofs.Ytnpffhgmakbdnaa
open Go.RowKit
abbrev cfX (c e b r : Int) : Value := .agg #[.int .i64 c, .int .i64 e, .int .i64 b, .int .i64 r]
def cfN (c e b r : Int) : Cf := ⟨c.toNat, e.toNat, b.toNat, r.toNat⟩
theorem may_ok {c e b r : Int} (h : mayB c e b r = true) : CfOk (cfN c e b r) ∧ cfV (cfN c e b r) = cfX c e b r := by
  unfold mayB inB at h
  simp at h
  have e1 : ((c.toNat : Nat) : Int) = c := Int.toNat_of_nonneg (by omega)
  have e2 : ((e.toNat : Nat) : Int) = e := Int.toNat_of_nonneg (by omega)
  have e3 : ((b.toNat : Nat) : Int) = b := Int.toNat_of_nonneg (by omega)
  have e4 : ((r.toNat : Nat) : Int) = r := Int.toNat_of_nonneg (by omega)
  refine ⟨⟨⟨?_, ?_⟩, ⟨?_, ?_⟩, ⟨?_, ?_⟩, ⟨?_, ?_⟩⟩, ?_⟩
  all_goals first
    | (simp only [cfN]; omega)
    | (unfold cfN cfX; simp only [cfV, e1, e2, e3, e4])
def erV (m : Bool) : Int := if m then 0 else 150
theorem new_u (w : World) (K : Nat → Nat) (t : Nat) (c e b r : Int) : Calls Try.prog 7 #[cfX c e b r] w fun x w' => ∃ oa K', x = .returned (.tuple #[.pointer oa, .int .i64 (erV (mayB c e b r))]) ∧ Mv (fun _ => False) w w' K K' ∧
    ((mayB c e b r = false ∧ oa = none) ∨ ∃ p mm, mayB c e b r = true ∧ oa = some ⟨p, 0, none⟩ ∧ TC K' w' t p (cfN c e b r) mm []) := by
  cases h : mayB c e b r
  · refine (new_bad w c e b r h).mono ?_
    rintro _ w' ⟨rfl, hb⟩
    exact ⟨none, _, rfl, Mv.of_below hb K (fun _ => 0), .inl ⟨rfl, rfl⟩⟩
  · obtain ⟨h1, h2⟩ := may_ok h
    have h3 := new_good w (cfN c e b r) h1
    rw [h2] at h3
    refine h3.mono ?_
    rintro _ w' ⟨p, mm, rfl, hp, hb, lp, lm⟩
    obtain ⟨K', ht, hm⟩ := TC.made hp hb lp lm K t
    exact ⟨_, K', rfl, hm, .inr ⟨p, mm, rfl, rfl, ht⟩⟩
theorem dnew_u (w : World) (K : Nat → Nat) (B t : Nat) (c e b r : Int) : Calls Try.prog 8 #[cfX c e b r] w fun x w' => ∃ oa K', x = .returned (.tuple #[.pointer oa, .int .i64 (erV (mayB c e b r))]) ∧ Mv (fun _ => False) w w' K K' ∧
    ((mayB c e b r = false ∧ oa = none) ∨ ∃ x, mayB c e b r = true ∧ oa = some ⟨x, 0, none⟩ ∧ DC K' w' B t x (cfN c e b r) (.slice none 0 0) (.slice none 0 0) [] []) := by
  cases h : mayB c e b r
  · refine (dnew_bad w c e b r h).mono ?_
    rintro _ w' ⟨rfl, hb⟩
    exact ⟨none, _, rfl, Mv.of_below hb K (fun _ => 0), .inl ⟨rfl, rfl⟩⟩
  · obtain ⟨h1, h2⟩ := may_ok h
    have h3 := dnew_good w K B t (cfN c e b r) h1
    rw [h2] at h3
    refine h3.mono ?_
    rintro _ w' ⟨x, K', rfl, hd, hm⟩
    exact ⟨_, K', rfl, hm, .inr ⟨x, rfl, rfl, hd⟩⟩
/-- none, or two caches that say the same -/
def SD (K : Nat → Nat) (w : World) (B tc t : Nat) (oa ox : Option Addr) : Prop :=
  (oa = none ∧ ox = none) ∨ ∃ p x g mm C v1 v2 L I, oa = some ⟨p, 0, none⟩ ∧ ox = some ⟨x, 0, none⟩ ∧ CfOk g ∧ PR K w B tc t p x g mm C v1 v2 L I
section
variable {K K' : Nat → Nat} {W w w' : World} {B tc t p x mm Lb : Nat} {g : Cf} {v1 v2 : Value} {L : List Kn} {I : List Sn} {C : List Cl} {oa ox ob oy : Option Addr}
theorem SD.mv {T : Nat → Prop} (h : SD K w B tc t oa ox) (m : Mv T w w' K K') (h0 : ¬ T tc) (h1 : ¬ T t) (h2 : ¬ T (t + 1)) (h3 : ¬ T (t + 2)) : SD K' w' B tc t oa ox := by
  rcases h with h | ⟨p, x, g, mm, C, v1, v2, L, I, e1, e2, e3, e4⟩
  · exact .inl h
  · exact .inr ⟨p, x, g, mm, C, v1, v2, L, I, e1, e2, e3, e4.mv m h0 h1 h2 h3⟩
theorem SD.nil (h : SD K w B tc t oa ox) : oa.isNone = ox.isNone := by
  rcases h with ⟨rfl, rfl⟩ | ⟨p, x, g, mm, C, v1, v2, L, I, rfl, rfl, e3, e4⟩
  · rfl
  · rfl
theorem SD.made {c e b r : Int} (ht : tc < t) (h1 : (mayB c e b r = false ∧ oa = none) ∨ ∃ p mm, mayB c e b r = true ∧ oa = some ⟨p, 0, none⟩ ∧ TC K w tc p (cfN c e b r) mm []) (m : Mv (fun _ => False) w w' K K')
    (h2 : (mayB c e b r = false ∧ ox = none) ∨ ∃ x, mayB c e b r = true ∧ ox = some ⟨x, 0, none⟩ ∧ DC K' w' B t x (cfN c e b r) (.slice none 0 0) (.slice none 0 0) [] []) : SD K' w' B tc t oa ox := by
  rcases h1 with ⟨q1, rfl⟩ | ⟨p, mm, q1, rfl, q2⟩
  · rcases h2 with ⟨_, rfl⟩ | ⟨x, q3, _⟩
    · exact .inl ⟨rfl, rfl⟩
    · rw [q1] at q3; cases q3
  · rcases h2 with ⟨q3, _⟩ | ⟨x, _, rfl, q4⟩
    · rw [q1] at q3; cases q3
    · exact .inr ⟨p, x, _, mm, [], _, _, [], [], rfl, rfl, (may_ok q1).1, q2.mv m id, q4, ⟨rfl, fun c hc => by simp at hc, fun y hy => by simp at hy⟩, ht⟩
structure ST (W w : World) (K : Nat → Nat) (oa ox ob oy : Option Addr) (Lb : Nat) : Prop where
  bs : BS W w K
  s1 : SD K w W.heap.size 1 10 oa ox
  s2 : SD K w W.heap.size 2 20 ob oy
  tb : TB K w 3 Lb (.cells #[.pointer oa, .pointer ox, .pointer ob, .pointer oy] 34)
theorem ST.mv {T : Nat → Prop} (h : ST W w K oa ox ob oy Lb) (m : Mv T w w' K K') (hT : ∀ y, y < 4 ∨ (10 ≤ y ∧ y < 30) → ¬ T y) : ST W w' K' oa ox ob oy Lb :=
  ⟨h.bs.mv m (hT _ (by omega)), h.s1.mv m (hT _ (by omega)) (hT _ (by omega)) (hT _ (by omega)) (hT _ (by omega)), h.s2.mv m (hT _ (by omega)) (hT _ (by omega)) (hT _ (by omega)) (hT _ (by omega)), h.tb.mv m (hT _ (by omega))⟩
theorem ST.c0 (h : ST W w K oa ox ob oy Lb) : w.cell? ⟨Lb, 0, none⟩ = some (.pointer oa) := by unfold World.cell?; rw [h.tb.at_]; rfl
theorem ST.c1 (h : ST W w K oa ox ob oy Lb) : w.cell? ⟨Lb, 1, none⟩ = some (.pointer ox) := by unfold World.cell?; rw [h.tb.at_]; rfl
theorem ST.c2 (h : ST W w K oa ox ob oy Lb) : w.cell? ⟨Lb, 2, none⟩ = some (.pointer ob) := by unfold World.cell?; rw [h.tb.at_]; rfl
theorem ST.c3 (h : ST W w K oa ox ob oy Lb) : w.cell? ⟨Lb, 3, none⟩ = some (.pointer oy) := by unfold World.cell?; rw [h.tb.at_]; rfl
/-- a step of the first, of the second -/
theorem ST.step1 (h : ST W w K oa ox ob oy Lb) {x : Nat} (hx : ox = some ⟨x, 0, none⟩) (o : OpR) (ho : OpOk o) : ∃ p, oa = some ⟨p, 0, none⟩ ∧ Calls Try.prog 9 #[.agg #[ptr p, ptr x], .agg (opC o)] w fun e w' => e = .returned (.bool true) ∧ ∃ K', ST W w' K' oa ox ob oy Lb := by
  rcases h.s1 with ⟨_, e⟩ | ⟨p, x', g, mm, C, v1, v2, L, I, e1, e2, e3, e4⟩
  · rw [e] at hx; cases hx
  · have e5 : x' = x := by rw [e2] at hx; cases hx; rfl
    subst e5
    refine ⟨p, e1, (step_any e4 h.bs.be.size e3 o ho).mono ?_⟩
    rintro e w' ⟨rfl, K', C', v1', v2', L', I', q1, q2⟩
    refine ⟨rfl, K', h.bs.mv q2 ?_, .inr ⟨p, x', g, mm, C', v1', v2', L', I', e1, e2, e3, q1⟩, h.s2.mv q2 ?_ ?_ ?_ ?_, h.tb.mv q2 ?_⟩ <;> (rintro (q | q | q | q) <;> omega)
theorem ST.step2 (h : ST W w K oa ox ob oy Lb) {x : Nat} (hx : oy = some ⟨x, 0, none⟩) (o : OpR) (ho : OpOk o) : ∃ p, ob = some ⟨p, 0, none⟩ ∧ Calls Try.prog 9 #[.agg #[ptr p, ptr x], .agg (opC o)] w fun e w' => e = .returned (.bool true) ∧ ∃ K', ST W w' K' oa ox ob oy Lb := by
  rcases h.s2 with ⟨_, e⟩ | ⟨p, x', g, mm, C, v1, v2, L, I, e1, e2, e3, e4⟩
  · rw [e] at hx; cases hx
  · have e5 : x' = x := by rw [e2] at hx; cases hx; rfl
    subst e5
    refine ⟨p, e1, (step_any e4 h.bs.be.size e3 o ho).mono ?_⟩
    rintro e w' ⟨rfl, K', C', v1', v2', L', I', q1, q2⟩
    refine ⟨rfl, K', h.bs.mv q2 ?_, h.s1.mv q2 ?_ ?_ ?_ ?_, .inr ⟨p, x', g, mm, C', v1', v2', L', I', e1, e2, e3, q1⟩, h.tb.mv q2 ?_⟩ <;> (rintro (q | q | q | q) <;> omega)
/-- the i-th of the two sides -/
def StepsAt (W : World) (oa ox ob oy : Option Addr) (Lb p x : Nat) : Prop := ∀ o, OpOk o → ∀ w' K', ST W w' K' oa ox ob oy Lb → Calls Try.prog 9 #[.agg #[ptr p, ptr x], .agg (opC o)] w' fun e w'' => e = .returned (.bool true) ∧ ∃ K'', ST W w'' K'' oa ox ob oy Lb
theorem ST.at (h : ST W w K oa ox ob oy Lb) (i : Nat) (hi : i < 2) : ∃ pa px : Option Addr, (∀ w' K', ST W w' K' oa ox ob oy Lb → w'.cell? ⟨Lb, i * 2, none⟩ = some (.pointer pa) ∧ w'.cell? ⟨Lb, i * 2 + 1, none⟩ = some (.pointer px)) ∧
    (px = none ∨ ∃ p x, pa = some ⟨p, 0, none⟩ ∧ px = some ⟨x, 0, none⟩ ∧ StepsAt W oa ox ob oy Lb p x) := by
  match i, hi with
  | 0, _ =>
    refine ⟨oa, ox, fun w' K' h' => ⟨h'.c0, h'.c1⟩, ?_⟩
    rcases h.s1 with ⟨_, e⟩ | ⟨p, x, g, mm, C, v1, v2, L, I, e1, e2, e3, e4⟩
    · exact .inl e
    · refine .inr ⟨p, x, e1, e2, fun o ho w' K' h' => ?_⟩
      obtain ⟨p', e5, q⟩ := h'.step1 e2 o ho
      rw [e1] at e5
      cases e5
      exact q
  | 1, _ =>
    refine ⟨ob, oy, fun w' K' h' => ⟨h'.c2, h'.c3⟩, ?_⟩
    rcases h.s2 with ⟨_, e⟩ | ⟨p, x, g, mm, C, v1, v2, L, I, e1, e2, e3, e4⟩
    · exact .inl e
    · refine .inr ⟨p, x, e1, e2, fun o ho w' K' h' => ?_⟩
      obtain ⟨p', e5, q⟩ := h'.step2 e2 o ho
      rw [e1] at e5
      cases e5
      exact q
theorem SD.ptr (h : SD K w B tc t oa ox) (hx : ox ≠ none) : ∃ p x, oa = some ⟨p, 0, none⟩ ∧ ox = some ⟨x, 0, none⟩ := by
  rcases h with ⟨_, e⟩ | ⟨p, x', g, mm, C, v1, v2, L, I, e1, e2, e3, e4⟩
  · exact absurd e hx
  · exact ⟨p, x', e1, e2⟩
end
theorem bld34 (w : World) (a b : Option Addr) : (Instr.build 34 #[(0, .pointer a), (1, .pointer b)]).run Try.prog w = .ok (.agg #[.pointer a, .pointer b]) w := by kernel_rfl
theorem bls35 (w : World) (a b c d : Option Addr) : (Instr.buildSlice 35 2 #[(0, .agg #[.pointer a, .pointer b]), (1, .agg #[.pointer c, .pointer d])]).run Try.prog w = .ok (.slice (some ⟨w.heap.size, 0, none⟩) 2 2) (w.alloc (.cells #[.pointer a, .pointer b, .pointer c, .pointer d] 34)) := by kernel_rfl
abbrev zop (what who seq : Int) : OpR := ⟨false, false, what, who, seq, 0, 0, 0, ⟨#[]⟩⟩
theorem bld39a (w : World) : (Instr.build 39 #[(2, .int .i64 99)]).run Try.prog w = .ok (.agg (opC (zop 99 0 0))) w := by kernel_rfl
theorem bld39b (w : World) (n m : Int) : (Instr.build 39 #[(2, .int .i64 6), (3, .int .i64 n), (4, .int .i64 m)]).run Try.prog w = .ok (.agg (opC (zop 6 n m))) w := by kernel_rfl
theorem bld39c (w : World) (n : Int) : (Instr.build 39 #[(2, .int .i64 7), (3, .int .i64 n)]).run Try.prog w = .ok (.agg (opC (zop 7 n 0))) w := by kernel_rfl
theorem TB.set {K : Nat → Nat} {w : World} {t A n : Nat} {cs : Array Value} {ty : TypeId} {f : Nat × Nat} (h : TB K w t A (.cells cs ty f)) (v : Value) : TB K (w.setCell ⟨A, n, none⟩ v) t A (.cells (cs.setIfInBounds n v) ty f) := by
  refine ⟨?_, h.k⟩
  unfold World.setCell
  simp [Array.getElem?_modify, h.at_]
end Go.Proofs.Ytnpffhgmakbdnaa
