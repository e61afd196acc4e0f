/- A region that draws its order, whose last operation waits for all the others: it is done last, and nothing need be held behind it. -/
import Derived.Test.YtedbjceeakmjgaaGreatDoorZa
import Derived.StillTail
import Derived.Deep.RegionHeld3
import Derived.Deep.RegionHeldLaw
namespace Go.Proofs.YtedbjceeakmjgaaGreatDoor
open Go
section
variable {P : Program} {ops : Array Oper} {Q : Exit → Act → World → Prop} {md : Region.Mode} {S : World → Prop}
/-- behind all the others the last one -/
def LastQ (P : Program) (ops : Array Oper) (Q : Exit → Act → World → Prop) (n : Nat) : Exit → Act → World → Prop
  | .normal, a, w => wpOp P ops Q n (fun a' w' => Q .normal a' w') a w
  | e, a, w => Q e a w
theorem LastQ.done {n : Nat} {a : Act} {w : World} (h : wpOp P ops Q n (fun a' w' => Q .normal a' w') a w) : LastQ P ops Q n .normal a w := h
theorem letsOut_last {n : Nat} (h : LetsOut (LastQ P ops Q n)) : LetsOut Q := by
  obtain ⟨a, w, h⟩ := h
  exact ⟨a, w, h⟩
theorem wpOp_last {n j : Nat} {a : Act} {w : World} {K : Act → World → Prop} (h : wpOp P ops (LastQ P ops Q n) j K a w) : wpOp P ops Q j K a w := by
  unfold wpOp at *
  cases hj : ops[j]? with
  | none => rw [hj] at h; exact h
  | some o =>
    rw [hj] at h
    simp only [] at h ⊢
    split
    · rename_i hw
      rw [if_pos hw] at h
      rcases h with h | ⟨h1, h2⟩
      · refine .inl ?_
        unfold Oper.wp at *
        cases hr : (execOp a.eval o).run P w with
        | ok x w' =>
          rw [hr] at h
          cases x with
          | enter f args =>
            refine Calls.mono (show Calls P f args w' _ from h) fun e w'' he => ?_
            cases e with
            | returned v => exact he
            | panicked c => exact he
            | outgrown => exact letsOut_last he
          | _ => exact h
        | halt x w' =>
          rw [hr] at h
          cases x <;> exact h
      · exact .inr ⟨h1, letsOut_last h2⟩
    · rename_i hw
      rw [if_neg hw] at h
      exact h
/-- what waits for what lies ahead of it -/
def lowB (md : Region.Mode) (ops : Array Oper) : Bool := (List.range ops.size).all fun j => match ops[j]? with
  | some o => o.after.all fun e => !(Region.binds md e) || decide (e.on < j)
  | none => true
theorem lowB_spec (h : lowB md ops = true) {j : Nat} {o : Oper} (ho : ops[j]? = some o) {e : _} (he : e ∈ o.after) (hb : Region.binds md e = true) : e.on < j := by
  have hj : j < ops.size := (Array.getElem?_eq_some_iff.1 ho).1
  have h1 := List.all_eq_true.1 h j (List.mem_range.2 hj)
  simp only [ho] at h1
  have h2 := (Array.all_eq_true'.1 h1) e he
  simpa [hb] using h2
theorem ready_ne (hl : lowB md ops = true) {listed : Array Bool} (hs : listed.size = ops.size) : ∀ i, listed.getD i true = false → i < ops.size → Region.ready md ops listed ≠ [] := by
  intro i
  induction i using Nat.strongRecOn with
  | _ i ih =>
    intro hi hlt h0
    by_cases hall : ∀ e ∈ (ops[i]).after, Region.binds md e = true → listed.getD e.on false = true
    · have : i ∈ Region.ready md ops listed := mem_ready.2 ⟨hi, ops[i], Array.getElem?_eq_getElem hlt, hall⟩
      rw [h0] at this
      cases this
    · simp only [Classical.not_forall] at hall
      obtain ⟨e, he, hb, hn⟩ := hall
      have hlow := lowB_spec hl (Array.getElem?_eq_getElem hlt) he hb
      refine ih e.on hlow ?_ (by omega) h0
      exact getD_in (by omega) (by simpa using hn)
/-- what is listed has all listed that it waits for -/
def Closed (md : Region.Mode) (ops : Array Oper) (listed : Array Bool) : Prop := ∀ j oj, ops[j]? = some oj → listed.getD j false = true → ∀ e ∈ oj.after, Region.binds md e = true → listed.getD e.on false = true
theorem Closed.set {listed : Array Bool} {i : Nat} (h : Closed md ops listed) (hi : i ∈ Region.ready md ops listed) : Closed md ops (listed.setIfInBounds i true) := fun j oj hj hl e he hb => by
  obtain ⟨_, oi, hoi, hall⟩ := mem_ready.1 hi
  by_cases hij : i = j
  · subst hij
    obtain rfl : oj = oi := Option.some.inj (hj.symm.trans hoi)
    exact getD_set_true (hall e he hb)
  · rw [getD_set_ne false hij] at hl
    exact getD_set_true (h j oj hj hl e he hb)
theorem wpAny_last {n : Nat} (hsz : ops.size = n + 1) (hl : lowB md ops = true) (hw : Region.sinkB md ops n = true) :
    ∀ (fuel : Nat) (listed : Array Bool) (a : Act) (w : World), listed.size = n + 1 → listed.getD n true = false → Closed md ops listed → wpAnyH P md ops (LastQ P ops Q n) S fuel (listed.setIfInBounds n true) a w → wpAny P md ops Q (fuel + 1) listed a w := by
  have r3 : ∀ {listed : Array Bool}, listed.size = n + 1 → Closed md ops listed → n ∈ Region.ready md ops listed → Region.ready md ops (listed.setIfInBounds n true) = [] := by
    intro listed hs hcl hn
    obtain ⟨_, on, ho, hall⟩ := mem_ready.1 hn
    have hbe : ∀ d i, n - i = d → i < n → listed.getD i false = true := by
      intro d
      induction d using Nat.strongRecOn with
      | _ d ih =>
        intro i hd hi
        have h1 := List.all_eq_true.1 hw i (List.mem_range.2 hi)
        obtain ⟨j, hj, hj2⟩ := List.any_eq_true.1 h1
        simp only [Bool.and_eq_true, decide_eq_true_eq] at hj2
        obtain ⟨oj, hoj, e, he, hb, hon⟩ := Region.waitsFor_spec hj2.2
        have hjle : j ≤ n := by have := List.mem_range.1 hj; omega
        rw [← hon]
        by_cases hjn : j = n
        · subst hjn
          obtain rfl : oj = on := Option.some.inj (hoj.symm.trans ho)
          exact hall e he hb
        · exact hcl j oj hoj (ih (n - j) (by omega) j rfl (by omega)) e he hb
    rw [List.eq_nil_iff_forall_not_mem]
    intro j hj
    obtain ⟨h0, oj, hoj, _⟩ := mem_ready.1 hj
    have hjs : j < n + 1 := by have := (Array.getElem?_eq_some_iff.1 hoj).1; omega
    by_cases hjn : j = n
    · subst hjn
      simp [hs] at h0
    · rw [getD_set_ne true (Ne.symm hjn)] at h0
      have h1 := hbe _ j rfl (by omega)
      rw [getD_both h0] at h1
      cases h1
  intro fuel
  induction fuel with
  | zero =>
    intro listed a w hs hn hcl h
    refine ⟨fun h0 => absurd h0 (ready_ne hl (by omega) n hn (by omega)), fun i hi => ?_⟩
    by_cases hin : i = n
    · subst hin
      exact wpOp_mono (fun a' w' hq => ⟨h.1, hq⟩) h.2
    · have := ready_mono hi hin
      rw [h.1] at this
      cases this
  | succ fuel ih =>
    intro listed a w hs hn hcl h
    refine ⟨fun h0 => absurd h0 (ready_ne hl (by omega) n hn (by omega)), fun i hi => ?_⟩
    by_cases hin : i = n
    · subst hin
      have h0 := r3 hs hcl hi
      exact wpOp_mono (fun a' w' hq => wpAny_done h0 hq _) (h.1 h0)
    · refine wpOp_mono (fun a' w' hh => ih (listed.setIfInBounds i true) a' w' (by simpa using hs) (by rw [getD_set_ne true hin]; exact hn) (hcl.set hi) ?_) (wpOp_last (h.2 i (ready_mono hi hin)))
      rw [Array.setIfInBounds_comm _ _ hin]
      exact hh.2
/-- such a region, begun -/
theorem wp_region_last {id : Nat} {a : Act} {w : World} {n : Nat} (hm : P.follows .mixedOrders = true) (hsz : ops.size = n + 1) (hl : lowB .any ops = true) (hw : Region.sinkB .any ops n = true) (hS : S w.drew)
    (h : S w.drew → wpAnyH P .any ops (LastQ P ops Q n) S n ((Array.replicate ops.size false).setIfInBounds n true) a w.drew) : (Code.region id ops true).wp P Q a w := by
  refine wp_region_any hm ?_
  have := wpAny_last (Q := Q) (S := S) hsz hl hw n (Array.replicate ops.size false) a w.drew (by simp [hsz]) (by simp [hsz]) (fun j oj _ hl => by rw [getD_replicate_false] at hl; cases hl) (h hS)
  rw [hsz] at this ⊢
  exact this
end
end Go.Proofs.YtedbjceeakmjgaaGreatDoor
