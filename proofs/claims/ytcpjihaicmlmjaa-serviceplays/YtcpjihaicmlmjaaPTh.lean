/- Services: two registries of each kind. -/
import Derived.Test.YtcpjihaicmlmjaaPTg
import Derived.Test.YtcpjihaicmlmjaaPTe
import Derived.Test.YtcpjihaicmlmjaaPTf
namespace Go.Proofs.Ytcpjihaicmlmjaa
open Go.RowKit
abbrev tp (n : Bool) : Nat := if n = true then 2 else 1
abbrev tr (n : Bool) : Nat := if n = true then 4 else 3
abbrev tl (n : Bool) : Nat := if n = true then 14 else 13
structure SP (W : World) (K : Nat → Nat) (w : World) (b q : Bool → Nat) (oa : Bool → Option Addr) (cap : Bool → Nat) (A L : Bool → List Sv) (v : Bool → Value) (lb xb : Nat) : Prop where
  p : ∀ n, PR K w (tp n) (b n) (oa n) (cap n) (A n)
  r : ∀ n, RR K w (tr n) (tl n) (q n) (v n) (L n)
  s : ∀ n, (A n).map cor = (L n).map cor
  lt : TB K w 7 lb (.cells #[ptr (b false), ptr (b true)] 24)
  xt : TB K w 7 xb (.cells #[ptr (q false), ptr (q true)] 27)
  bs : BS W w K
def upB {α : Type} (f : Bool → α) (n : Bool) (x : α) : Bool → α := fun m => if m = n then x else f m
theorem upB_at {α : Type} (f : Bool → α) (n : Bool) (x : α) : upB f n x n = x := if_pos rfl
theorem upB_ne {α : Type} (f : Bool → α) {n m : Bool} (x : α) (h : ¬ m = n) : upB f n x m = f m := if_neg h
section
variable {W w w' : World} {K K' : Nat → Nat} {b q : Bool → Nat} {oa : Bool → Option Addr} {cap : Bool → Nat} {A L : Bool → List Sv} {v : Bool → Value} {lb xb : Nat}
theorem SP.mv {T : Nat → Prop} (h : SP W K w b q oa cap A L v lb xb) (m : Mv T w w' K K') (ht : ∀ x, T x → x = 8 ∨ x = 9 ∨ x = 10 ∨ x = 11) : SP W K' w' b q oa cap A L v lb xb := by
  refine ⟨fun n => (h.p n).mv m (fun hx => ?_) (fun hx => ?_), fun n => (h.r n).mv m (fun hx => ?_) (fun hx => ?_) (fun hx => ?_), h.s, h.lt.mv m (fun hx => ?_), h.xt.mv m (fun hx => ?_), h.bs.mv m (fun hx => ?_)⟩
  all_goals (first
    | (have := ht _ hx; cases n <;> simp [tp, tr, tl] at this)
    | (have := ht _ hx; omega))
/-- one side is changed -/
theorem SP.step (h : SP W K w b q oa cap A L v lb xb) (n : Bool) {oa' : Option Addr} {cap' : Nat} {A' L' : List Sv} {v' : Value} (hp : PR K' w' (tp n) (b n) oa' cap' A') (hr : RR K' w' (tr n) (tl n) (q n) v' L') (hs : A'.map cor = L'.map cor) (m : Mv (fun x => x = tp n ∨ x = tr n ∨ x = tl n ∨ x = 8 ∨ x = 10) w w' K K') :
    SP W K' w' b q (upB oa n oa') (upB cap n cap') (upB A n A') (upB L n L') (upB v n v') lb xb := by
  refine ⟨fun k => ?_, fun k => ?_, fun k => ?_, h.lt.mv m ?_, h.xt.mv m ?_, h.bs.mv m ?_⟩
  · by_cases hk : k = n
    · subst hk; rw [upB_at, upB_at, upB_at]; exact hp
    · rw [upB_ne _ _ hk, upB_ne _ _ hk, upB_ne _ _ hk]
      refine (h.p k).mv m ?_ ?_
      · cases k <;> cases n <;> simp_all [tp, tr, tl]
      · cases n <;> simp [tp, tr, tl]
  · by_cases hk : k = n
    · subst hk; rw [upB_at, upB_at]; exact hr
    · rw [upB_ne _ _ hk, upB_ne _ _ hk]
      refine (h.r k).mv m ?_ ?_ ?_
      · cases k <;> cases n <;> simp_all [tp, tr, tl]
      · cases k <;> cases n <;> simp_all [tp, tr, tl]
      · cases n <;> simp [tp, tr, tl]
  · by_cases hk : k = n
    · subst hk; rw [upB_at, upB_at]; exact hs
    · rw [upB_ne _ _ hk, upB_ne _ _ hk]; exact h.s k
  · cases n <;> simp [tp, tr, tl]
  · cases n <;> simp [tp, tr, tl]
  · cases n <;> simp [tp, tr, tl]
theorem SP.lc (h : SP W K w b q oa cap A L v lb xb) : w.cell? ⟨lb, 0, none⟩ = some (ptr (b false)) ∧ w.cell? ⟨lb, 1, none⟩ = some (ptr (b true)) ∧ w.cell? ⟨xb, 0, none⟩ = some (ptr (q false)) ∧ w.cell? ⟨xb, 1, none⟩ = some (ptr (q true)) := by
  refine ⟨?_, ?_, ?_, ?_⟩
  · unfold World.cell?; rw [h.lt.at_]; rfl
  · unfold World.cell?; rw [h.lt.at_]; rfl
  · unfold World.cell?; rw [h.xt.at_]; rfl
  · unfold World.cell?; rw [h.xt.at_]; rfl
end
theorem mv9 {w w1 w2 w3 w4 w5 w6 w7 w8 w9 : World} {S t : Nat} {a0 a1 a2 a3 a4 a5 a6 a7 a8 : Value} {K : Nat → Nat} (g1 : w.setCell ⟨S, 0, none⟩ a0 = w1) (g2 : w1.setCell ⟨S, 1, none⟩ a1 = w2) (g3 : w2.setCell ⟨S, 2, none⟩ a2 = w3) (g4 : w3.setCell ⟨S, 3, none⟩ a3 = w4) (g5 : w4.setCell ⟨S, 4, none⟩ a4 = w5) (g6 : w5.setCell ⟨S, 5, none⟩ a5 = w6) (g7 : w6.setCell ⟨S, 6, none⟩ a6 = w7) (g8 : w7.setCell ⟨S, 7, none⟩ a7 = w8) (g9 : w8.setCell ⟨S, 8, none⟩ a8 = w9) (hk : K S = t) : Mv (fun x => x = t) w w9 K K := by
  subst g1 g2 g3 g4 g5 g6 g7 g8 g9
  exact ((((((((Mv.of_set _ K ⟨S, 0, none⟩ _ hk).trans (Mv.of_set _ K ⟨S, 1, none⟩ _ hk)).trans (Mv.of_set _ K ⟨S, 2, none⟩ _ hk)).trans (Mv.of_set _ K ⟨S, 3, none⟩ _ hk)).trans (Mv.of_set _ K ⟨S, 4, none⟩ _ hk)).trans (Mv.of_set _ K ⟨S, 5, none⟩ _ hk)).trans (Mv.of_set _ K ⟨S, 6, none⟩ _ hk)).trans (Mv.of_set _ K ⟨S, 7, none⟩ _ hk)).trans (Mv.of_set _ K ⟨S, 8, none⟩ _ hk)
/-- a script that lies in memory -/
structure OpsAt (W : World) (sb off n : Nat) (O : Nat → OpR) : Prop where
  c : ∀ i, i < n → ∀ k, k < 9 → W.cell? ⟨sb, off + i * 9 + k, none⟩ = (opA (O i))[k]?
  g : ∀ i, i < n → GsAt W W.heap.size (O i).oa (O i).procs
  i64 : ∀ i, i < n → ∀ j, j < (O i).procs.length → I64 ((O i).procs.getD j 0)
  n64 : ∀ i, i < n → I64 (O i).prog ∧ I64 (O i).vers ∧ I64 (O i).proc
  len : ∀ i, i < n → (O i).procs.length ≤ 17592186044415 ∧ (O i).args.length ≤ 281474976710656
/-- the state of a step: the registries, and the step itself -/
def ST (W w : World) (b q : Bool → Nat) (lb xb S : Nat) (o : OpR) : Prop := ∃ K oa cap A L v τ, SP W K w b q oa cap A L v lb xb ∧ GsT K w τ o.oa o.procs ∧ (τ = 0 ∨ τ = 9) ∧ TB K w 11 S (.cells (opA o) 34)
def SX (W w : World) (b q : Bool → Nat) (lb xb : Nat) : Prop := ∃ K oa cap A L v, SP W K w b q oa cap A L v lb xb
theorem GsAt.tag {W w : World} {K : Nat → Nat} {oa : Option Addr} {gs : List Int} (h : GsAt W W.heap.size oa gs) (hb : BS W w K) : GsT K w 0 oa gs := fun h0 => by
  obtain ⟨q, off, e1, e2, e3⟩ := h h0
  exact ⟨q, off, e1, Nat.lt_of_lt_of_le e2 hb.be.size, hb.k0 q e2, fun i hi => (cell_of_block (hb.be.block q e2)).trans (e3 i hi)⟩
section
variable {W w : World} {b q : Bool → Nat} {lb xb S : Nat} {o : OpR}
theorem ST.drew (h : ST W w b q lb xb S o) : ST W w.drew b q lb xb S o := by
  obtain ⟨K, oa, cap, A, L, v, τ, h1, h2, h3, h4⟩ := h
  have m := Mv.drew (fun _ => False) w K
  exact ⟨K, oa, cap, A, L, v, τ, h1.mv m (fun _ h => h.elim), h2.mv m (fun h => h), h3, h4.mv m (fun h => h)⟩
theorem ST.below {w' : World} (h : ST W w b q lb xb S o) (hb : Below w.heap.size w w') : ST W w' b q lb xb S o := by
  obtain ⟨K, oa, cap, A, L, v, τ, h1, h2, h3, h4⟩ := h
  have m := Mv.of_below hb K (fun _ => 9)
  exact ⟨_, oa, cap, A, L, v, τ, h1.mv m (fun _ h => h.elim), h2.mv m (fun h => h), h3, h4.mv m (fun h => h)⟩
theorem ST.x (h : ST W w b q lb xb S o) : SX W w b q lb xb := by
  obtain ⟨K, oa, cap, A, L, v, τ, h1, _⟩ := h
  exact ⟨K, oa, cap, A, L, v, h1⟩
theorem ST.cells (h : ST W w b q lb xb S o) : w.heap[S]? = some (.cells (opA o) 34) := by
  obtain ⟨K, oa, cap, A, L, v, τ, _, _, _, h4⟩ := h
  exact h4.at_
theorem ST.lc (h : ST W w b q lb xb S o) : w.cell? ⟨lb, 0, none⟩ = some (ptr (b false)) ∧ w.cell? ⟨lb, 1, none⟩ = some (ptr (b true)) ∧ w.cell? ⟨xb, 0, none⟩ = some (ptr (q false)) ∧ w.cell? ⟨xb, 1, none⟩ = some (ptr (q true)) := by
  obtain ⟨K, oa, cap, A, L, v, τ, h1, _⟩ := h
  exact h1.lc
theorem ST.offer (h : ST W w b q lb xb S o) (hl : o.procs.length ≤ 17592186044415) (n : Bool) : Calls Try.prog 8 #[ptr (b n), ptr (q n), .agg (opA o)] w fun e w' => e = .returned (.bool true) ∧ ST W w' b q lb xb S o := by
  obtain ⟨K, oa, cap, A, L, v, τ, h1, h2, h3, h4⟩ := h
  refine (both_any (h1.p n) (h1.r n) (h1.s n) (by cases n <;> simp [tp]) (by cases n <;> simp [tr]) (by cases n <;> simp [tl]) h3 o h2 hl).mono ?_
  rintro e w' ⟨K', oa', cap', A', v', L', rfl, a1, a2, a3, a4⟩
  refine ⟨rfl, K', _, _, _, _, _, τ, h1.step n a1 a2 a3 a4, h2.mv a4 ?_, h3, h4.mv a4 ?_⟩
  · rcases h3 with rfl | rfl <;> cases n <;> simp [tp, tr, tl]
  · cases n <;> simp [tp, tr, tl]
theorem ST.find (h : ST W w b q lb xb S o) (n : Bool) : ∃ R, (∀ w', Below w.heap.size w w' → Calls Try.prog 9 #[ptr (b n), .int .i64 o.prog, .int .i64 o.vers, .int .i64 o.proc] w' fun e w'' => e = .returned (tup3 R) ∧ Below w'.heap.size w' w'') ∧ (∀ w', Below w.heap.size w w' → Calls Try.prog 10 #[ptr (q n), .int .i64 o.prog, .int .i64 o.vers, .int .i64 o.proc] w' fun e w'' => e = .returned (tup3 R) ∧ Below w'.heap.size w' w'') := by
  obtain ⟨K, oa, cap, A, L, v, τ, h1, h2, h3, h4⟩ := h
  refine ⟨findP (A n) o.prog o.vers o.proc, fun w' hb => find_any ((h1.p n).below hb (fun _ => 9)) _ _ _, fun w' hb => ?_⟩
  rw [findP_same (h1.s n)]
  exact dfind_any ((h1.r n).below hb (fun _ => 9)) _ _ _
theorem ST.run (h : ST W w b q lb xb S o) (hl : o.args.length ≤ 281474976710656) (n : Bool) : ∃ R, (∀ w', Below w.heap.size w w' → Calls Try.prog 11 #[ptr (b n), .int .i64 o.prog, .int .i64 o.vers, .int .i64 o.proc, .string ⟨o.args.toArray⟩] w' fun e w'' => e = .returned (tup R) ∧ Below w'.heap.size w' w'') ∧ (∀ w', Below w.heap.size w w' → Calls Try.prog 12 #[ptr (q n), .agg (opA o)] w' fun e w'' => e = .returned (tup R) ∧ Below w'.heap.size w' w'') := by
  obtain ⟨K, oa, cap, A, L, v, τ, h1, h2, h3, h4⟩ := h
  refine ⟨ranP (findP (A n) o.prog o.vers o.proc).1 o.proc o.args, fun w' hb => run_any ((h1.p n).below hb (fun _ => 9)) _ _ _ _ hl, fun w' hb => ?_⟩
  rw [findP_same (h1.s n)]
  exact drun_any ((h1.r n).below hb (fun _ => 9)) o hl
end
end Go.Proofs.Ytcpjihaicmlmjaa
