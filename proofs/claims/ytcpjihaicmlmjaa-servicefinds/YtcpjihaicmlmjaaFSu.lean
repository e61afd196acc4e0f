/- Services: versions of one program, plainly; the state of ServiceFinds. -/
import Derived.Test.YtcpjihaicmlmjaaFSt
namespace Go.Proofs.Ytcpjihaicmlmjaa
open Go.RowKit
def ivC (x : Int) : List Value := [.int .i64 x]
theorem ivC_len (x : Int) : (ivC x).length = 1 := rfl
structure FS (W : World) (p : Int) (b : Nat) (K : Nat → Nat) (w : World) (oa : Option Addr) (cap : Nat) (L : List Sv) (lo : Option Addr) (lc : Nat) (l : List Int) : Prop where
  pr : PR K w 1 b oa cap L
  row : RW 3 1 ivC K w 0 2 (.slice lo l.length lc) l
  bs : BS W w K
  vs : L.map Sv.vers = l
  all : ∀ s, s ∈ L → s.prog = p ∧ ∃ q : Int, 1 ≤ q ∧ q ≤ 1000 ∧ s.procs = [q, 1000000]
section
variable {W w w' : World} {p : Int} {b : Nat} {K : Nat → Nat} {oa lo : Option Addr} {cap lc : Nat} {L : List Sv} {l : List Int}
theorem FS.below (h : FS W p b K w oa cap L lo lc l) (hb : Below w.heap.size w w') : FS W p b (ext w K (fun _ => 5)) w' oa cap L lo lc l :=
  have m := Mv.of_below hb K (fun _ => 5)
  ⟨h.pr.mv m (fun h => h) (fun h => h), h.row.mv m (fun h => h), h.bs.mv m (fun h => h), h.vs, h.all⟩
theorem FS.len (h : FS W p b K w oa cap L lo lc l) : l.length = L.length := by rw [← h.vs, List.length_map]
theorem FS.cell (h : FS W p b K w oa cap L lo lc l) {j : Nat} (hj : j < l.length) : ∃ g, lo = some ⟨g, 0, none⟩ ∧ w.cell? ⟨g, j, none⟩ = some (.int .i64 (l.getD j 0)) := by
  obtain ⟨oa', cap', e, _, hg⟩ := h.row.form
  obtain ⟨g, rfl⟩ := hg (by omega)
  cases e
  refine ⟨g, rfl, ?_⟩
  have := h.row.cell ivC_len rfl (j := j) (x := l.getD j 0) (by rw [List.getD_eq_getElem?_getD, List.getElem?_eq_getElem hj]; rfl) 0 (by omega)
  simpa [ivC] using this
/-- is that version there? -/
theorem find_in (h : ∀ s, s ∈ L → s.prog = p) (v : Int) : (L.find? (isIt p v)).isSome = decide (v ∈ L.map Sv.vers) := by
  rw [Bool.eq_iff_iff, List.find?_isSome, decide_eq_true_eq]
  constructor
  · rintro ⟨s, hs, hi⟩
    unfold isIt at hi
    simp only [Bool.and_eq_true, beq_iff_eq] at hi
    exact List.mem_map.2 ⟨s, hs, hi.2⟩
  · intro hv
    obtain ⟨s, hs, e⟩ := List.mem_map.1 hv
    refine ⟨s, hs, ?_⟩
    unfold isIt
    simp [h s hs, e]
theorem vs_all (h : ∀ s, s ∈ L → s.prog = p) : vsP p L = L.map Sv.vers := by
  unfold vsP
  rw [List.filter_eq_self.2 (fun s hs => by simp [h s hs])]
theorem vs_other {p' : Int} (h : ∀ s, s ∈ L → s.prog = p) (hp : ¬ p = p') : vsP p' L = [] := by
  unfold vsP
  rw [List.filter_eq_nil_iff.2 (fun s hs => by simp [h s hs, hp])]
  rfl
theorem FS.found (h : FS W p b K w oa cap L lo lc l) {v : Int} (hv : v ∈ l) : ∃ q : Int, 1 ≤ q ∧ q ≤ 1000 ∧ ∀ c, findP L p v c = if hasP [q, 1000000] c = true then (0, 0, 0) else (3, 0, 0) := by
  have h1 := find_in (p := p) (fun s hs => (h.all s hs).1) v
  rw [h.vs, decide_eq_true hv] at h1
  obtain ⟨s, hs⟩ := Option.isSome_iff_exists.1 h1
  have hm := List.mem_of_find?_eq_some hs
  obtain ⟨e, q, q1, q2, e2⟩ := h.all s hm
  refine ⟨q, q1, q2, fun c => ?_⟩
  have hvs : vsP p L = l := by rw [vs_all (fun s hs => (h.all s hs).1), h.vs]
  unfold findP
  rw [hvs, if_neg (by intro h0; rw [List.eq_nil_of_length_eq_zero h0] at hv; simp at hv), hs]
  show (if hasP s.procs c = true then (0, 0, 0) else (3, 0, 0)) = _
  rw [e2]
theorem has_0 (q : Int) : hasP [q, 1000000] 0 = true := by unfold hasP; simp
theorem has_1 (q : Int) : hasP [q, 1000000] 1000000 = true := by unfold hasP; simp
theorem has_2 {q : Int} (h : q ≤ 1000) : hasP [q, 1000000] 1000001 = false := by
  unfold hasP
  have : ¬ (1000001 : Int) = q := by omega
  simp [this]
theorem FS.nowhere (h : FS W p b K w oa cap L lo lc l) {v : Int} (hv : ¬ v ∈ l) (c : Int) : findP L p v c = if l.length = 0 then (1, 0, 0) else (2, minL l, maxL l) := by
  have h1 := find_in (p := p) (fun s hs => (h.all s hs).1) v
  rw [h.vs, decide_eq_false hv] at h1
  have hn : L.find? (isIt p v) = .none := by simpa using h1
  have hvs : vsP p L = l := by rw [vs_all (fun s hs => (h.all s hs).1), h.vs]
  unfold findP
  rw [hvs, hn]
  rfl
theorem FS.other (h : FS W p b K w oa cap L lo lc l) {p' : Int} (hp : ¬ p = p') (v c : Int) : findP L p' v c = (1, 0, 0) := by
  unfold findP
  rw [vs_other (fun s hs => (h.all s hs).1) hp]
  rfl
theorem offerE_is (h : FS W p b K w oa cap L lo lc l) {s : Sv} (hm : mayP s true = true) (hp : s.prog = p) : offerE L s true = if s.vers ∈ l then 181 else if l.length = 16 then 182 else 0 := by
  unfold offerE
  rw [if_neg (by rw [hm]; simp), hp, find_in (fun s hs => (h.all s hs).1) s.vers, h.vs]
  have := h.pr.most
  have := h.len
  by_cases a : s.vers ∈ l
  · simp [a]
  · simp only [a, decide_false, Bool.false_eq_true, if_false]
    by_cases c : l.length = 16
    · rw [if_pos c, if_pos (by omega)]
    · rw [if_neg c, if_neg (by omega)]
theorem min_is {x : Int} {r : List Int} (h : x ≤ 4294967296) : minL (x :: r) = (x :: r).foldl min 4294967296 := by
  show r.foldl min x = r.foldl min (min 4294967296 x)
  rw [show min 4294967296 x = x by omega]
theorem max_is {x : Int} {r : List Int} (h : 0 ≤ x) : maxL (x :: r) = (x :: r).foldl max (-1) := by
  show r.foldl max x = r.foldl max (max (-1) x)
  rw [show max (-1) x = x by omega]
end
end Go.Proofs.Ytcpjihaicmlmjaa
