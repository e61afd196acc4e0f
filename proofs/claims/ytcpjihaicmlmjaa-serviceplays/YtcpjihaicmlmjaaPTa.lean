/- Services: the document's registry. -/
import Derived.Test.YtcpjihaicmlmjaaPSt
import Derived.Test.YtcpjihaicmlmjaaPSi
namespace Go.Proofs.Ytcpjihaicmlmjaa
open Go.RowKit
/-- what a service is, wherever it lies -/
def cor (s : Sv) : Int × Int × List Int := (s.prog, s.vers, s.procs)
/-- the document's registry: its block bears the tag t, its list the tag u, procedures the tag 7 -/
structure RR (K : Nat → Nat) (w : World) (t u p : Nat) (v : Value) (L : List Sv) : Prop where
  hd : TB K w t p (.cells #[v] 30 (0, 0))
  row : RW 55 3 rvC K w 0 u v L
  gs : ∀ s, s ∈ L → GsT K w 7 s.oa s.procs
  ok : ∀ s, s ∈ L → okS s
  most : L.length ≤ 16
section
variable {K K' : Nat → Nat} {w w' : World} {t u p : Nat} {v : Value} {L : List Sv}
theorem RR.mv {T : Nat → Prop} (h : RR K w t u p v L) (m : Mv T w w' K K') (ht : ¬ T t) (hu : ¬ T u) (h7 : ¬ T 7) : RR K' w' t u p v L :=
  ⟨h.hd.mv m ht, h.row.mv m hu, fun s hs => (h.gs s hs).mv m h7, h.ok, h.most⟩
theorem RR.below (h : RR K w t u p v L) (hb : Below w.heap.size w w') (N : Nat → Nat) : RR (ext w K N) w' t u p v L := h.mv (Mv.of_below hb K N) (fun h => h) (fun h => h) (fun h => h)
theorem RR.c0 (h : RR K w t u p v L) : w.cell? ⟨p, 0, none⟩ = some v := by unfold World.cell?; rw [h.hd.at_]; rfl
theorem RR.f0 (h : RR K w t u p v L) : w.frozen? ⟨p, 0, none⟩ = false := by unfold World.frozen?; rw [h.hd.at_]; rfl
theorem RR.form (h : RR K w t u p v L) : ∃ oa cap, v = .slice oa L.length cap := by
  obtain ⟨oa, cap, e, _⟩ := h.row.form
  exact ⟨oa, cap, e⟩
theorem RR.at_ {oa : Option Addr} {n cap : Nat} (h : RR K w t u p (.slice oa n cap) L) (h0 : 0 < L.length) : ∃ g, oa = some ⟨g, 0, none⟩ ∧ g < w.heap.size ∧ ∀ j s, L[j]? = some s → ∀ k, k < 3 → w.cell? ⟨g, j * 3 + k, none⟩ = (rvC s)[k]? := by
  obtain ⟨oa', cap', e, _, hg⟩ := h.row.form
  obtain ⟨g, rfl⟩ := hg h0
  injection e with e1 e2 e3
  subst e1 e2 e3
  exact ⟨g, rfl, (h.row.own.lt g rfl).2, fun j s hs k hk => h.row.cell rvC_len rfl hs k hk⟩
end
theorem RR.new (K : Nat → Nat) (w : World) (t u : Nat) : RR (ext w K (fun _ => t)) (w.alloc (.cells #[.slice none 0 0] 30)) t u w.heap.size (.slice none 0 0) [] :=
  ⟨TB.new w K _ _ rfl, RW.nil _ _ _ _ _ _ _, fun s hs => by simp at hs, fun s hs => by simp at hs, by simp⟩
/-! ### Find, as the document goes -/
def lowN (low x : Int) : Int := if low < 0 ∨ x < low then x else low
def rfind (p v c : Int) : List Sv → Int → Int → Int × Int × Int
  | [], low, high => if low < 0 then (1, 0, 0) else (2, low, high)
  | s :: r, low, high => if (s.prog == p) = true then (if (s.vers == v) = true then (if hasP s.procs c = true then (0, 0, 0) else (3, 0, 0)) else rfind p v c r (lowN low s.vers) (max high s.vers)) else rfind p v c r low high
def lowOf : List Int → Int
  | [] => -1
  | x :: l => minL (x :: l)
theorem lowOf_app {A : List Int} {x : Int} (hA : ∀ y, y ∈ A → 0 ≤ y) : lowOf (A ++ [x]) = lowN (lowOf A) x := by
  cases A with
  | nil => simp [lowOf, lowN, minL]
  | cons a r =>
    have h0 : 0 ≤ minL (a :: r) := by
      have : ∀ (r : List Int) (a : Int), 0 ≤ a → (∀ y, y ∈ r → 0 ≤ y) → 0 ≤ r.foldl min a := by
        intro r
        induction r with
        | nil => intro a h _; exact h
        | cons z r ih => intro a h hr; exact ih _ (by have := hr z (List.mem_cons_self ..); omega) (fun y hy => hr y (List.mem_cons_of_mem _ hy))
      exact this r a (hA a (List.mem_cons_self ..)) (fun y hy => hA y (List.mem_cons_of_mem _ hy))
    show minL (a :: (r ++ [x])) = lowN (minL (a :: r)) x
    unfold lowN
    show (r ++ [x]).foldl min a = _
    rw [List.foldl_append]
    show min (r.foldl min a) x = _
    have e : minL (a :: r) = r.foldl min a := rfl
    rw [e] at h0 ⊢
    split <;> omega
theorem lowOf_neg {A : List Int} (hA : ∀ y, y ∈ A → 0 ≤ y) : (lowOf A < 0) ↔ A.length = 0 := by
  cases A with
  | nil => simp [lowOf]
  | cons a r =>
    have : ∀ (r : List Int) (a : Int), 0 ≤ a → (∀ y, y ∈ r → 0 ≤ y) → 0 ≤ r.foldl min a := by
      intro r
      induction r with
      | nil => intro a h _; exact h
      | cons z r ih => intro a h hr; exact ih _ (by have := hr z (List.mem_cons_self ..); omega) (fun y hy => hr y (List.mem_cons_of_mem _ hy))
    have h0 : 0 ≤ lowOf (a :: r) := this r a (hA a (List.mem_cons_self ..)) (fun y hy => hA y (List.mem_cons_of_mem _ hy))
    simp
    omega
theorem high_is {A : List Int} (hA : ∀ y, y ∈ A → 0 ≤ y) (h0 : ¬ A.length = 0) : A.foldl max (-1) = maxL A := by
  cases A with
  | nil => simp at h0
  | cons a r =>
    show r.foldl max (max (-1) a) = r.foldl max a
    rw [show max (-1) a = a by have := hA a (List.mem_cons_self ..); omega]
theorem rfind_is (p v c : Int) : ∀ (r : List Sv) (A : List Int), (∀ y, y ∈ A → 0 ≤ y) → (∀ s, s ∈ r → 0 ≤ s.vers) → rfind p v c r (lowOf A) (A.foldl max (-1)) = if (A ++ vsP p r).length = 0 then (1, 0, 0) else foundP (A ++ vsP p r) c (r.find? (isIt p v))
  | [], A, hA, _ => by
    have e : A ++ vsP p [] = A := by simp [vsP]
    rw [e]
    unfold rfind
    by_cases h0 : A.length = 0
    · rw [if_pos ((lowOf_neg hA).2 h0), if_pos h0]
    · rw [if_neg (fun h => h0 ((lowOf_neg hA).1 h)), if_neg h0, high_is hA h0]
      cases A with
      | nil => simp at h0
      | cons a r => rfl
  | s :: r, A, hA, hr => by
    unfold rfind
    by_cases hp : (s.prog == p) = true
    · rw [if_pos hp]
      have ev : vsP p (s :: r) = s.vers :: vsP p r := by unfold vsP; simp [hp]
      rw [ev]
      by_cases hv : (s.vers == v) = true
      · have hne : ¬ (A ++ s.vers :: vsP p r).length = 0 := by simp
        rw [if_pos hv, if_neg hne]
        have ef : (s :: r).find? (isIt p v) = some s := by
          rw [List.find?_cons_of_pos]
          unfold isIt
          rw [hp, hv]; rfl
        rw [ef]
        rfl
      · rw [if_neg hv]
        have ef : (s :: r).find? (isIt p v) = r.find? (isIt p v) := by
          rw [List.find?_cons_of_neg]
          unfold isIt
          simp [hp, hv]
        rw [ef, ← lowOf_app hA, show max (A.foldl max (-1)) s.vers = (A ++ [s.vers]).foldl max (-1) by rw [List.foldl_append]; rfl]
        rw [rfind_is p v c r (A ++ [s.vers]) (fun y hy => by
          rcases List.mem_append.1 hy with hy | hy
          · exact hA y hy
          · simp at hy; subst hy; exact hr s (List.mem_cons_self ..)) (fun s' hs => hr s' (List.mem_cons_of_mem _ hs))]
        rw [List.append_assoc]
        rfl
    · rw [if_neg hp]
      have ev : vsP p (s :: r) = vsP p r := by unfold vsP; simp [hp]
      have ef : (s :: r).find? (isIt p v) = r.find? (isIt p v) := by
        rw [List.find?_cons_of_neg]
        unfold isIt
        simp [hp]
      rw [ev, ef]
      exact rfind_is p v c r A hA (fun s' hs => hr s' (List.mem_cons_of_mem _ hs))
theorem rfind_all {p v c : Int} {L : List Sv} (h : ∀ s, s ∈ L → 0 ≤ s.vers) : rfind p v c L (-1) (-1) = findP L p v c := by
  have := rfind_is p v c L [] (fun y hy => by simp at hy) h
  simpa [lowOf, findP] using this
theorem ok_vers {s : Sv} (h : okS s) : 0 ≤ s.vers := by
  have := h.2.1
  unfold isW at this
  simp at this
  omega
/-- two registries with the same services, wherever these lie -/
theorem find_same {A B : List Sv} (h : A.map cor = B.map cor) (p v : Int) : (A.find? (isIt p v)).map cor = (B.find? (isIt p v)).map cor := by
  have e : ∀ (A : List Sv), (A.find? (isIt p v)).map cor = (A.map cor).find? (fun x => (x.1 == p) && (x.2.1 == v)) := by
    intro A
    rw [List.find?_map]
    rfl
  rw [e, e, h]
theorem vs_same {A B : List Sv} (h : A.map cor = B.map cor) (p : Int) : vsP p A = vsP p B := by
  have e : ∀ (A : List Sv), vsP p A = ((A.map cor).filter (fun x => x.1 == p)).map (fun x => x.2.1) := by
    intro A
    unfold vsP
    rw [List.filter_map, List.map_map]
    rfl
  rw [e, e, h]
theorem findP_same {A B : List Sv} (h : A.map cor = B.map cor) (p v c : Int) : findP A p v c = findP B p v c := by
  unfold findP
  rw [vs_same h]
  congr 1
  have := find_same h p v
  cases ha : A.find? (isIt p v) with
  | none =>
    cases hb : B.find? (isIt p v) with
    | none => rfl
    | some b => rw [ha, hb] at this; simp at this
  | some a =>
    cases hb : B.find? (isIt p v) with
    | none => rw [ha, hb] at this; simp at this
    | some b =>
      rw [ha, hb] at this
      simp [cor] at this
      show (if hasP a.procs c = true then (0, 0, 0) else (3, 0, 0)) = (if hasP b.procs c = true then (0, 0, 0) else (3, 0, 0))
      rw [this.2.2]
theorem some_same {A B : List Sv} (h : A.map cor = B.map cor) (p v : Int) : (A.find? (isIt p v)).isSome = (B.find? (isIt p v)).isSome := by
  have := congrArg Option.isSome (find_same h p v)
  simpa using this
end Go.Proofs.Ytcpjihaicmlmjaa
