/- Trees as they are read: any places; all blocks lie below B. The program's printer: what a node must have; a number. The library's text of a number, at this seat. The program's printer: tokens laid down at once; a number. -/
import Derived.Test.YteokdknaadckbaaGreatDoorPart15
import Derived.Shelf.Strconv.Itoa0
import Derived.Shelf.Strconv.Itoa1
import Derived.Shelf.LaysM
import Derived.Shelf.Strconv.Itoa2
import Derived.Shelf.Strconv.Itoa3
import Derived.Test.YteokdknaadckbaaGreatDoorProg
import Derived.Lib.ItoaLen
namespace Go.Proofs.YteokdknaadckbaaGreatDoor
open Go.RowKit Go.Lib

inductive ITree where
  | node (k : Int) (n : List UInt8) (m a : Int) (ks : List ITree)
def ITree.kind : ITree → Int | .node k _ _ _ _ => k
def ITree.name : ITree → List UInt8 | .node _ n _ _ _ => n
def ITree.num : ITree → Int | .node _ _ m _ _ => m
def ITree.place : ITree → Int | .node _ _ _ a _ => a
def ITree.kids : ITree → List ITree | .node _ _ _ _ ks => ks
def kidVI (k : Int) (n : List UInt8) (m a : Int) (sl : Value) : Value := .agg #[.int .i64 k, .string ⟨n.toArray⟩, .int .i64 m, .int .i64 a, sl]
def kidOI (k : Int) (n : List UInt8) (m a : Int) (sl : Value) : Obj := .cells #[.int .i64 k, .string ⟨n.toArray⟩, .int .i64 m, .int .i64 a, sl] 29 (0, 0)
theorem kid_cellsI {w : World} {b : Nat} {k m a : Int} {n : List UInt8} {sl : Value} (h : w.heap[b]? = some (kidOI k n m a sl)) :
    (w.cell? ⟨b, 0, none⟩ = some (.int .i64 k) ∧ w.cell? ⟨b, 1, none⟩ = some (.string ⟨n.toArray⟩) ∧ w.cell? ⟨b, 2, none⟩ = some (.int .i64 m) ∧ w.cell? ⟨b, 3, none⟩ = some (.int .i64 a) ∧ w.cell? ⟨b, 4, none⟩ = some sl) ∧
    (w.frozen? ⟨b, 0, none⟩ = false ∧ w.frozen? ⟨b, 1, none⟩ = false ∧ w.frozen? ⟨b, 2, none⟩ = false ∧ w.frozen? ⟨b, 3, none⟩ = false ∧ w.frozen? ⟨b, 4, none⟩ = false) := by
  unfold World.cell? World.frozen?
  simp only [h]
  exact ⟨⟨rfl, rfl, rfl, rfl, rfl⟩, rfl, rfl, rfl, rfl, rfl⟩

mutual
def TreeR (B : Nat) (w : World) : ITree → Value → Prop
  | .node k n m a ks, v => ∃ o c, v = kidVI k n m a (.slice o ks.length c) ∧ ks.length ≤ c ∧ c ≤ maxLen ∧ n.length ≤ maxLen ∧ (-9223372036854775808 ≤ m ∧ m ≤ 9223372036854775807) ∧ (ks = [] ∨ ∃ g, o = some ⟨g, 0, none⟩ ∧ g < B ∧ RowR B w g 0 ks)
def RowR (B : Nat) (w : World) (g : Nat) : Nat → List ITree → Prop
  | _, [] => True
  | j, t :: ts => (∃ v0 v1 v2 v3 v4, (w.cell? ⟨g, j * 5, none⟩ = some v0 ∧ w.cell? ⟨g, j * 5 + 1, none⟩ = some v1 ∧ w.cell? ⟨g, j * 5 + 2, none⟩ = some v2 ∧ w.cell? ⟨g, j * 5 + 3, none⟩ = some v3 ∧ w.cell? ⟨g, j * 5 + 4, none⟩ = some v4) ∧ TreeR B w t (.agg #[v0, v1, v2, v3, v4])) ∧ RowR B w g (j + 1) ts
end
theorem treeR_node {B : Nat} {w : World} {k m a : Int} {n : List UInt8} {ks : List ITree} {v : Value} : TreeR B w (.node k n m a ks) v ↔ ∃ o c, v = kidVI k n m a (.slice o ks.length c) ∧ ks.length ≤ c ∧ c ≤ maxLen ∧ n.length ≤ maxLen ∧ (-9223372036854775808 ≤ m ∧ m ≤ 9223372036854775807) ∧ (ks = [] ∨ ∃ g, o = some ⟨g, 0, none⟩ ∧ g < B ∧ RowR B w g 0 ks) := by rw [TreeR]
theorem rowR_cons {B : Nat} {w : World} {g j : Nat} {t : ITree} {ts : List ITree} : RowR B w g j (t :: ts) ↔ (∃ v0 v1 v2 v3 v4, (w.cell? ⟨g, j * 5, none⟩ = some v0 ∧ w.cell? ⟨g, j * 5 + 1, none⟩ = some v1 ∧ w.cell? ⟨g, j * 5 + 2, none⟩ = some v2 ∧ w.cell? ⟨g, j * 5 + 3, none⟩ = some v3 ∧ w.cell? ⟨g, j * 5 + 4, none⟩ = some v4) ∧ TreeR B w t (.agg #[v0, v1, v2, v3, v4])) ∧ RowR B w g (j + 1) ts := by rw [RowR]
mutual
theorem TreeR.frame {B B' : Nat} {w w' : World} (hB : B ≤ B') (h : ∀ b, b < B → w'.heap[b]? = w.heap[b]?) : (t : ITree) → (v : Value) → TreeR B w t v → TreeR B' w' t v
  | .node k n m a ks, v, ht => by
    rw [treeR_node] at ht ⊢
    obtain ⟨o, c, h1, h2, h3, h4, h5, h6⟩ := ht
    refine ⟨o, c, h1, h2, h3, h4, h5, ?_⟩
    rcases h6 with h6 | ⟨g, h7, h8, h9⟩
    · exact Or.inl h6
    · exact Or.inr ⟨g, h7, Nat.lt_of_lt_of_le h8 hB, RowR.frame hB h g h8 0 ks h9⟩
theorem RowR.frame {B B' : Nat} {w w' : World} (hB : B ≤ B') (h : ∀ b, b < B → w'.heap[b]? = w.heap[b]?) (g : Nat) (hg : g < B) : (j : Nat) → (ts : List ITree) → RowR B w g j ts → RowR B' w' g j ts
  | _, [], _ => by rw [RowR]; trivial
  | j, t :: ts, hr => by
    rw [rowR_cons] at hr ⊢
    obtain ⟨⟨v0, v1, v2, v3, v4, ⟨c0, c1, c2, c3, c4⟩, ht⟩, hs⟩ := hr
    have hgg := h g hg
    exact ⟨⟨v0, v1, v2, v3, v4, ⟨(cells_same hgg _).1.trans c0, (cells_same hgg _).1.trans c1, (cells_same hgg _).1.trans c2, (cells_same hgg _).1.trans c3, (cells_same hgg _).1.trans c4⟩, TreeR.frame hB h t _ ht⟩, RowR.frame hB h g hg (j + 1) ts hs⟩
end
theorem rowR_get {B : Nat} {w : World} {g : Nat} : (ts : List ITree) → (j i : Nat) → (hi : i < ts.length) → RowR B w g j ts → ∃ v0 v1 v2 v3 v4, (w.cell? ⟨g, (j + i) * 5, none⟩ = some v0 ∧ w.cell? ⟨g, (j + i) * 5 + 1, none⟩ = some v1 ∧ w.cell? ⟨g, (j + i) * 5 + 2, none⟩ = some v2 ∧ w.cell? ⟨g, (j + i) * 5 + 3, none⟩ = some v3 ∧ w.cell? ⟨g, (j + i) * 5 + 4, none⟩ = some v4) ∧ TreeR B w ts[i] (.agg #[v0, v1, v2, v3, v4])
  | [], _, _, hi, _ => by simp at hi
  | t :: ts, j, 0, _, h => by
    rw [rowR_cons] at h
    exact h.1
  | t :: ts, j, i + 1, hi, h => by
    rw [rowR_cons] at h
    have := rowR_get ts (j + 1) i (by simp at hi; omega) h.2
    rw [show j + 1 + i = j + (i + 1) by omega] at this
    exact this
/-- a kid as it lies -/
structure KidR (w : World) (g j : Nat) (k : Int) (n : List UInt8) (m a : Int) (sl : Value) : Prop where
  c0 : w.cell? ⟨g, j * 5, none⟩ = some (.int .i64 k)
  c1 : w.cell? ⟨g, j * 5 + 1, none⟩ = some (.string ⟨n.toArray⟩)
  c2 : w.cell? ⟨g, j * 5 + 2, none⟩ = some (.int .i64 m)
  c3 : w.cell? ⟨g, j * 5 + 3, none⟩ = some (.int .i64 a)
  c4 : w.cell? ⟨g, j * 5 + 4, none⟩ = some sl
theorem KidR.frame {w w' : World} {g j : Nat} {k m a : Int} {n : List UInt8} {sl : Value} (h : KidR w g j k n m a sl) (hg : w'.heap[g]? = w.heap[g]?) : KidR w' g j k n m a sl :=
  ⟨(cells_same hg _).1.trans h.c0, (cells_same hg _).1.trans h.c1, (cells_same hg _).1.trans h.c2, (cells_same hg _).1.trans h.c3, (cells_same hg _).1.trans h.c4⟩
theorem kid_get {B : Nat} {w : World} {g : Nat} {ks : List ITree} (h : RowR B w g 0 ks) (i : Nat) (hi : i < ks.length) (k m a : Int) (n : List UInt8) (us : List ITree) (he : ks[i] = .node k n m a us) :
    ∃ o c, KidR w g i k n m a (.slice o us.length c) ∧ TreeR B w (.node k n m a us) (kidVI k n m a (.slice o us.length c)) := by
  obtain ⟨v0, v1, v2, v3, v4, ⟨c0, c1, c2, c3, c4⟩, ht⟩ := rowR_get ks 0 i hi h
  rw [Nat.zero_add] at c0 c1 c2 c3 c4
  rw [he] at ht
  have ht2 := ht
  rw [treeR_node] at ht2
  obtain ⟨o, c, h1, _⟩ := ht2
  unfold kidVI at h1
  have h1 := congrArg (fun v => match v with | Value.agg l => l.toList | _ => []) h1
  simp at h1
  obtain ⟨rfl, rfl, rfl, rfl, rfl⟩ := h1
  exact ⟨o, c, ⟨c0, c1, c2, c3, c4⟩, ht⟩

mutual
def Tree.toI : Tree → ITree
  | .node k n m a ks => .node k n m a (toIs ks)
def toIs : List Tree → List ITree
  | [] => []
  | t :: ts => t.toI :: toIs ts
end
theorem toIs_len : (ts : List Tree) → (toIs ts).length = ts.length
  | [] => by rw [toIs]; rfl
  | t :: ts => by rw [toIs]; simp [toIs_len ts]

mutual
def TreeOk : Tree → Prop
  | .node _ n m _ ks => n.length ≤ maxLen ∧ (-9223372036854775808 ≤ m ∧ m ≤ 9223372036854775807) ∧ TreesOk ks
def TreesOk : List Tree → Prop
  | [] => True
  | t :: ts => TreeOk t ∧ TreesOk ts
end
mutual
theorem TreeAt.toR {A : Nat → Prop} {w : World} : (t : Tree) → (v : Value) → TreeOk t → TreeAt A w t v → TreeR w.heap.size w t.toI v
  | .node k n m a ks, v, hk, h => by
    rw [TreeAt] at h
    rw [TreeOk] at hk
    obtain ⟨sl, rfl, xs, hown, hA, hrow⟩ := h
    rw [Tree.toI, treeR_node]
    rcases hown with ⟨hxl, ⟨rfl, hk0⟩ | ⟨g, cap, cur, rfl, _, hg, hnc, hcm, hcs, htake⟩⟩
    · have : ks = [] := List.length_eq_zero_iff.1 hk0
      subst this
      exact ⟨none, 0, rfl, by simp [toIs], by unfold maxLen; omega, hk.1, hk.2.1, Or.inl (by rw [toIs])⟩
    · refine ⟨some ⟨g, 0, none⟩, cap, by rw [toIs_len]; rfl, by rw [toIs_len]; exact hnc, hcm, hk.1, hk.2.1, Or.inr ⟨g, rfl, blk_lt hg, ?_⟩⟩
      refine RowV.toR g 0 ks xs hk.2.2 (fun i x hx => ?_) hrow
      have h2 : i < xs.length := (List.getElem?_eq_some_iff.1 hx).1
      rw [← htake, List.getElem?_take] at hx
      split at hx
      · rw [Nat.zero_mul, Nat.zero_add]
        unfold World.cell?
        simp only [hg]
        simpa using hx
      · cases hx
theorem RowV.toR {A : Nat → Prop} {w : World} (g : Nat) : (j : Nat) → (ts : List Tree) → (xs : List Value) → TreesOk ts → (∀ i x, xs[i]? = some x → w.cell? ⟨g, j * 5 + i, none⟩ = some x) → RowV A w ts xs → RowR w.heap.size w g j (toIs ts)
  | j, [], xs, _, _, _ => by rw [toIs, RowR]; trivial
  | j, t :: ts, xs, hk, hx, h => by
    rw [TreesOk] at hk
    rw [rowV_cons] at h
    obtain ⟨v0, v1, v2, v3, v4, ys, rfl, ht, hr⟩ := h
    rw [toIs, rowR_cons]
    refine ⟨⟨v0, v1, v2, v3, v4, ⟨hx 0 _ rfl, hx 1 _ rfl, hx 2 _ rfl, hx 3 _ rfl, hx 4 _ rfl⟩, TreeAt.toR t _ hk.1 ht⟩, RowV.toR g (j + 1) ts ys hk.2 (fun i x hi => ?_) hr⟩
    have := hx (i + 5) x (by simpa using hi)
    rw [show (j + 1) * 5 + i = j * 5 + (i + 5) by omega]
    exact this
end
end Go.Proofs.YteokdknaadckbaaGreatDoor
namespace Go.Proofs.YteokdknaadckbaaGreatDoor
open Go.RowKit Go.Lib

/-- a name or none -/
def nameOk (n : List UInt8) (name : Bool) : Bool := (Lx.isNameP n == name) && (name || n == [])
def sizeOk (len : Nat) (m : Int) (least most : Nat) : Bool := decide (least ≤ len) && decide (len ≤ most) && m == 0
def MustPost (ok : Bool) (w : World) (e : Ending) (w' : World) : Prop := Below w.heap.size w w' ∧ ((ok = true ∧ e = .returned (.tuple #[])) ∨ (ok = false ∧ e = treeFault))
set_option maxHeartbeats 1000000 in
set_option maxRecDepth 4000 in
theorem mustHave_true (k : Int) (n : List UInt8) (m a : Int) (o : Option Addr) (len c least most : Nat) (w : World) (hn : (n.length : Int) ≤ 9223372036854775807) :
    Calls Tryz.prog 59 #[kidVI k n m a (.slice o len c), .bool true, .int .i64 (least : Nat), .int .i64 (most : Nat)] w (MustPost (nameOk n true && sizeOk len m least most) w) := by
  have hq : ∀ w, Calls Tryz.prog 96 #[.string ⟨n.toArray⟩] w fun e w' => e = .returned (.bool (Lx.isNameP n)) ∧ w' = w := fun w => Lx.isName_any n w hn
  have HQ : Hid (∀ w, Calls Tryz.prog 96 #[.string ⟨n.toArray⟩] w fun e w' => e = .returned (.bool (Lx.isNameP n)) ∧ w' = w) := hq
  clear hq
  obtain ⟨R, hR⟩ : ∃ R, (nameOk n true && sizeOk len m least most) = R := ⟨_, rfl⟩
  rw [hR]
  have HR : Hid ((nameOk n true && sizeOk len m least most) = R) := hR
  obtain ⟨wa, hwa⟩ : ∃ x, w.alloc (.cells #[.int .i64 k, .string ⟨n.toArray⟩, .int .i64 m, .int .i64 a, .slice o len c] 29) = x := ⟨_, rfl⟩
  have HB : Hid (Below w.heap.size w wa) := by show Below w.heap.size w wa; rw [← hwa]; exact below_alloc _ _
  have kk : wa.heap[w.heap.size]? = some (kidOI k n m a (.slice o len c)) := by rw [← hwa]; exact heap_alloc_new _ _
  obtain ⟨⟨z0, z1, z2, z3, z4⟩, _⟩ := kid_cellsI kk
  unfold kidVI
  clear hR kk
  obtain ⟨N, hN⟩ : ∃ N, Lx.isNameP n = N := ⟨_, rfl⟩
  rw [hN] at HQ
  have HN : Hid (Lx.isNameP n = N) := hN
  obtain ⟨E, hE⟩ : ∃ E, (n == []) = E := ⟨_, rfl⟩
  have HE : Hid ((n == []) = E) := hE
  clear hN
  obtain ⟨X, hX⟩ : ∃ X, ((N == true) && (true || E)) = X := ⟨_, rfl⟩
  have HX : Hid (nameOk n true = X) := by show _ = _; unfold nameOk; rw [HN.out, HE.out]; exact hX
  by_cases h1 : least ≤ len
  · have i1 : (least : Int) ≤ len := by omega
    have j1 : decide ((least : Int) ≤ len) = true := by simp; omega
    by_cases h2 : len ≤ most
    · have i2 : (len : Int) ≤ most := by omega
      have j2 : decide ((len : Int) ≤ most) = true := by simp; omega
      by_cases h3 : m = 0
      · subst h3
        have HS : Hid (sizeOk len 0 least most = true) := by show _ = _; unfold sizeOk; simp [h1, h2]
        clear hn
        cases N <;> cases E <;> simp at hX <;> subst hX
        all_goals (
          go_enter Tryz.func59, Tryz.ntmps59
          go_wp2_with (first | (go_at_call 96; refine (HQ.out _).mono ?_; rintro e wi ⟨rfl, hwi⟩; rw [hwi]; clear hwi wi) | (go_at_call 58; refine (must_true _).mono ?_; rintro e wi ⟨rfl, hwi⟩; rw [hwi]; clear hwi wi) | (go_at_call 58; refine (must_false _).mono ?_; rintro e wi ⟨he, hwi⟩; rw [hwi]; clear hwi; unfold treeFault at he; rw [he]; clear he wi))
          first
          | (first | go_end0 | refine bodyPost_ret (results_none rfl _ _ _) rfl ?_
             refine ⟨HB.out, Or.inl ⟨?_, rfl⟩⟩
             rw [← HR.out, HX.out, HS.out]; rfl)
          | (refine ⟨rfl, HB.out, Or.inr ⟨?_, rfl⟩⟩
             rw [← HR.out, HX.out, HS.out]; rfl))
      · have j3 : (m == 0) = false := by simp [h3]
        have HS : Hid (sizeOk len m least most = false) := by show _ = _; unfold sizeOk; simp [h3]
        clear hn
        cases N <;> cases E <;> simp at hX <;> subst hX
        all_goals (
          go_enter Tryz.func59, Tryz.ntmps59
          go_wp2_with (first | (go_at_call 96; refine (HQ.out _).mono ?_; rintro e wi ⟨rfl, hwi⟩; rw [hwi]; clear hwi wi) | (go_at_call 58; refine (must_true _).mono ?_; rintro e wi ⟨rfl, hwi⟩; rw [hwi]; clear hwi wi) | (go_at_call 58; refine (must_false _).mono ?_; rintro e wi ⟨he, hwi⟩; rw [hwi]; clear hwi; unfold treeFault at he; rw [he]; clear he wi))
          first
          | (first | go_end0 | refine bodyPost_ret (results_none rfl _ _ _) rfl ?_
             refine ⟨HB.out, Or.inl ⟨?_, rfl⟩⟩
             rw [← HR.out, HX.out, HS.out]; rfl)
          | (refine ⟨rfl, HB.out, Or.inr ⟨?_, rfl⟩⟩
             rw [← HR.out, HX.out, HS.out]; rfl))
    · have i2 : ¬ (len : Int) ≤ most := by omega
      have j2 : decide ((len : Int) ≤ most) = false := by simp; omega
      have HS : Hid (sizeOk len m least most = false) := by show _ = _; unfold sizeOk; simp [h2]
      clear hn
      cases N <;> cases E <;> simp at hX <;> subst hX
      all_goals (
        go_enter Tryz.func59, Tryz.ntmps59
        go_wp2_with (first | (go_at_call 96; refine (HQ.out _).mono ?_; rintro e wi ⟨rfl, hwi⟩; rw [hwi]; clear hwi wi) | (go_at_call 58; refine (must_true _).mono ?_; rintro e wi ⟨rfl, hwi⟩; rw [hwi]; clear hwi wi) | (go_at_call 58; refine (must_false _).mono ?_; rintro e wi ⟨he, hwi⟩; rw [hwi]; clear hwi; unfold treeFault at he; rw [he]; clear he wi))
        first
        | (first | go_end0 | refine bodyPost_ret (results_none rfl _ _ _) rfl ?_
           refine ⟨HB.out, Or.inl ⟨?_, rfl⟩⟩
           rw [← HR.out, HX.out, HS.out]; rfl)
        | (refine ⟨rfl, HB.out, Or.inr ⟨?_, rfl⟩⟩
           rw [← HR.out, HX.out, HS.out]; rfl))
  · have i1 : ¬ (least : Int) ≤ len := by omega
    have j1 : decide ((least : Int) ≤ len) = false := by simp; omega
    have HS : Hid (sizeOk len m least most = false) := by show _ = _; unfold sizeOk; simp [h1]
    clear hn
    cases N <;> cases E <;> simp at hX <;> subst hX
    all_goals (
      go_enter Tryz.func59, Tryz.ntmps59
      go_wp2_with (first | (go_at_call 96; refine (HQ.out _).mono ?_; rintro e wi ⟨rfl, hwi⟩; rw [hwi]; clear hwi wi) | (go_at_call 58; refine (must_true _).mono ?_; rintro e wi ⟨rfl, hwi⟩; rw [hwi]; clear hwi wi) | (go_at_call 58; refine (must_false _).mono ?_; rintro e wi ⟨he, hwi⟩; rw [hwi]; clear hwi; unfold treeFault at he; rw [he]; clear he wi))
      first
      | (first | go_end0 | refine bodyPost_ret (results_none rfl _ _ _) rfl ?_
         refine ⟨HB.out, Or.inl ⟨?_, rfl⟩⟩
         rw [← HR.out, HX.out, HS.out]; rfl)
      | (refine ⟨rfl, HB.out, Or.inr ⟨?_, rfl⟩⟩
         rw [← HR.out, HX.out, HS.out]; rfl))
set_option maxHeartbeats 1000000 in
set_option maxRecDepth 4000 in
theorem mustHave_false (k : Int) (n : List UInt8) (m a : Int) (o : Option Addr) (len c least most : Nat) (w : World) (hn : (n.length : Int) ≤ 9223372036854775807) :
    Calls Tryz.prog 59 #[kidVI k n m a (.slice o len c), .bool false, .int .i64 (least : Nat), .int .i64 (most : Nat)] w (MustPost (nameOk n false && sizeOk len m least most) w) := by
  have hq : ∀ w, Calls Tryz.prog 96 #[.string ⟨n.toArray⟩] w fun e w' => e = .returned (.bool (Lx.isNameP n)) ∧ w' = w := fun w => Lx.isName_any n w hn
  have HQ : Hid (∀ w, Calls Tryz.prog 96 #[.string ⟨n.toArray⟩] w fun e w' => e = .returned (.bool (Lx.isNameP n)) ∧ w' = w) := hq
  clear hq
  obtain ⟨R, hR⟩ : ∃ R, (nameOk n false && sizeOk len m least most) = R := ⟨_, rfl⟩
  rw [hR]
  have HR : Hid ((nameOk n false && sizeOk len m least most) = R) := hR
  obtain ⟨wa, hwa⟩ : ∃ x, w.alloc (.cells #[.int .i64 k, .string ⟨n.toArray⟩, .int .i64 m, .int .i64 a, .slice o len c] 29) = x := ⟨_, rfl⟩
  have HB : Hid (Below w.heap.size w wa) := by show Below w.heap.size w wa; rw [← hwa]; exact below_alloc _ _
  have kk : wa.heap[w.heap.size]? = some (kidOI k n m a (.slice o len c)) := by rw [← hwa]; exact heap_alloc_new _ _
  obtain ⟨⟨z0, z1, z2, z3, z4⟩, _⟩ := kid_cellsI kk
  unfold kidVI
  clear hR kk
  obtain ⟨N, hN⟩ : ∃ N, Lx.isNameP n = N := ⟨_, rfl⟩
  rw [hN] at HQ
  have HN : Hid (Lx.isNameP n = N) := hN
  obtain ⟨E, hE⟩ : ∃ E, (n == []) = E := ⟨_, rfl⟩
  have HE : Hid ((n == []) = E) := hE
  clear hN
  obtain ⟨X, hX⟩ : ∃ X, ((N == false) && (false || E)) = X := ⟨_, rfl⟩
  have HX : Hid (nameOk n false = X) := by show _ = _; unfold nameOk; rw [HN.out, HE.out]; exact hX
  by_cases h1 : least ≤ len
  · have i1 : (least : Int) ≤ len := by omega
    have j1 : decide ((least : Int) ≤ len) = true := by simp; omega
    by_cases h2 : len ≤ most
    · have i2 : (len : Int) ≤ most := by omega
      have j2 : decide ((len : Int) ≤ most) = true := by simp; omega
      by_cases h3 : m = 0
      · subst h3
        have HS : Hid (sizeOk len 0 least most = true) := by show _ = _; unfold sizeOk; simp [h1, h2]
        clear hn
        cases N <;> cases E <;> simp at hX <;> subst hX
        all_goals (
          go_enter Tryz.func59, Tryz.ntmps59
          go_wp2_with (first | (go_at_call 96; refine (HQ.out _).mono ?_; rintro e wi ⟨rfl, hwi⟩; rw [hwi]; clear hwi wi) | (go_at_call 58; refine (must_true _).mono ?_; rintro e wi ⟨rfl, hwi⟩; rw [hwi]; clear hwi wi) | (go_at_call 58; refine (must_false _).mono ?_; rintro e wi ⟨he, hwi⟩; rw [hwi]; clear hwi; unfold treeFault at he; rw [he]; clear he wi))
          first
          | (first | go_end0 | refine bodyPost_ret (results_none rfl _ _ _) rfl ?_
             refine ⟨HB.out, Or.inl ⟨?_, rfl⟩⟩
             rw [← HR.out, HX.out, HS.out]; rfl)
          | (refine ⟨rfl, HB.out, Or.inr ⟨?_, rfl⟩⟩
             rw [← HR.out, HX.out, HS.out]; rfl))
      · have j3 : (m == 0) = false := by simp [h3]
        have HS : Hid (sizeOk len m least most = false) := by show _ = _; unfold sizeOk; simp [h3]
        clear hn
        cases N <;> cases E <;> simp at hX <;> subst hX
        all_goals (
          go_enter Tryz.func59, Tryz.ntmps59
          go_wp2_with (first | (go_at_call 96; refine (HQ.out _).mono ?_; rintro e wi ⟨rfl, hwi⟩; rw [hwi]; clear hwi wi) | (go_at_call 58; refine (must_true _).mono ?_; rintro e wi ⟨rfl, hwi⟩; rw [hwi]; clear hwi wi) | (go_at_call 58; refine (must_false _).mono ?_; rintro e wi ⟨he, hwi⟩; rw [hwi]; clear hwi; unfold treeFault at he; rw [he]; clear he wi))
          first
          | (first | go_end0 | refine bodyPost_ret (results_none rfl _ _ _) rfl ?_
             refine ⟨HB.out, Or.inl ⟨?_, rfl⟩⟩
             rw [← HR.out, HX.out, HS.out]; rfl)
          | (refine ⟨rfl, HB.out, Or.inr ⟨?_, rfl⟩⟩
             rw [← HR.out, HX.out, HS.out]; rfl))
    · have i2 : ¬ (len : Int) ≤ most := by omega
      have j2 : decide ((len : Int) ≤ most) = false := by simp; omega
      have HS : Hid (sizeOk len m least most = false) := by show _ = _; unfold sizeOk; simp [h2]
      clear hn
      cases N <;> cases E <;> simp at hX <;> subst hX
      all_goals (
        go_enter Tryz.func59, Tryz.ntmps59
        go_wp2_with (first | (go_at_call 96; refine (HQ.out _).mono ?_; rintro e wi ⟨rfl, hwi⟩; rw [hwi]; clear hwi wi) | (go_at_call 58; refine (must_true _).mono ?_; rintro e wi ⟨rfl, hwi⟩; rw [hwi]; clear hwi wi) | (go_at_call 58; refine (must_false _).mono ?_; rintro e wi ⟨he, hwi⟩; rw [hwi]; clear hwi; unfold treeFault at he; rw [he]; clear he wi))
        first
        | (first | go_end0 | refine bodyPost_ret (results_none rfl _ _ _) rfl ?_
           refine ⟨HB.out, Or.inl ⟨?_, rfl⟩⟩
           rw [← HR.out, HX.out, HS.out]; rfl)
        | (refine ⟨rfl, HB.out, Or.inr ⟨?_, rfl⟩⟩
           rw [← HR.out, HX.out, HS.out]; rfl))
  · have i1 : ¬ (least : Int) ≤ len := by omega
    have j1 : decide ((least : Int) ≤ len) = false := by simp; omega
    have HS : Hid (sizeOk len m least most = false) := by show _ = _; unfold sizeOk; simp [h1]
    clear hn
    cases N <;> cases E <;> simp at hX <;> subst hX
    all_goals (
      go_enter Tryz.func59, Tryz.ntmps59
      go_wp2_with (first | (go_at_call 96; refine (HQ.out _).mono ?_; rintro e wi ⟨rfl, hwi⟩; rw [hwi]; clear hwi wi) | (go_at_call 58; refine (must_true _).mono ?_; rintro e wi ⟨rfl, hwi⟩; rw [hwi]; clear hwi wi) | (go_at_call 58; refine (must_false _).mono ?_; rintro e wi ⟨he, hwi⟩; rw [hwi]; clear hwi; unfold treeFault at he; rw [he]; clear he wi))
      first
      | (first | go_end0 | refine bodyPost_ret (results_none rfl _ _ _) rfl ?_
         refine ⟨HB.out, Or.inl ⟨?_, rfl⟩⟩
         rw [← HR.out, HX.out, HS.out]; rfl)
      | (refine ⟨rfl, HB.out, Or.inr ⟨?_, rfl⟩⟩
         rw [← HR.out, HX.out, HS.out]; rfl))
end Go.Proofs.YteokdknaadckbaaGreatDoor
namespace Go.Proofs
open Go.Shelf
def Tryz.laysM171_ren : Go.Shelf.Ren := ⟨fun | 171 => 130 | 243 => 155 | 246 => 163 | 283 => 165 | 284 => 166 | 285 => 167 | 286 => 168 | 129 => 170 | 317 => 169 | 318 => 171 | 319 => 172 | 320 => 173 | 337 => 174 | 338 => 175 | n => n, fun | 3 => 3 | 9 => 9 | 2 => 2 | 4 => 4 | 171 => 127 | 0 => 0 | 53 => 128 | 37 => 66 | 5 => 5 | 173 => 131 | 212 => 134 | 51 => 135 | 20 => 20 | 213 => 136 | 46 => 138 | 232 => 141 | 233 => 142 | n => n, fun | 17 => 1 | 18 => 2 | 19 => 3 | n => n⟩
theorem Tryz.laysM171 : Go.Proofs.LaysM.n171 Tryz.prog Tryz.laysM171_ren := {
  mixed := by kernel_rfl
  f129 := Tryz.func170.trans (congrArg some (by kernel_rfl))
  f171 := Tryz.func130.trans (congrArg some (by kernel_rfl))
  f243 := Tryz.func155.trans (congrArg some (by kernel_rfl))
  f246 := Tryz.func163.trans (congrArg some (by kernel_rfl))
  f283 := Tryz.func165.trans (congrArg some (by kernel_rfl))
  f284 := Tryz.func166.trans (congrArg some (by kernel_rfl))
  f285 := Tryz.func167.trans (congrArg some (by kernel_rfl))
  f286 := Tryz.func168.trans (congrArg some (by kernel_rfl))
  f317 := Tryz.func169.trans (congrArg some (by kernel_rfl))
  f318 := Tryz.func171.trans (congrArg some (by kernel_rfl))
  f319 := Tryz.func172.trans (congrArg some (by kernel_rfl))
  f320 := Tryz.func173.trans (congrArg some (by kernel_rfl))
  f337 := Tryz.func174.trans (congrArg some (by kernel_rfl))
  f338 := Tryz.func175.trans (congrArg some (by kernel_rfl))
  t0 := Tryz.underlying0
  a0 := Tryz.isAgg0
  z0 := Tryz.sizeOf0
  v0 := Tryz.zeroValue0
  t2 := Tryz.underlying2
  a2 := Tryz.isAgg2
  z2 := Tryz.sizeOf2
  v2 := Tryz.zeroValue2
  t3 := Tryz.underlying3
  a3 := Tryz.isAgg3
  z3 := Tryz.sizeOf3
  v3 := Tryz.zeroValue3
  t4 := Tryz.underlying4
  a4 := Tryz.isAgg4
  z4 := Tryz.sizeOf4
  v4 := Tryz.zeroValue4
  t5 := Tryz.underlying5
  a5 := Tryz.isAgg5
  z5 := Tryz.sizeOf5
  v5 := Tryz.zeroValue5
  t9 := Tryz.underlying9
  a9 := Tryz.isAgg9
  z9 := Tryz.sizeOf9
  v9 := Tryz.zeroValue9
  t20 := Tryz.underlying20
  a20 := Tryz.isAgg20
  z20 := Tryz.sizeOf20
  v20 := Tryz.zeroValue20
  t37 := Tryz.underlying66
  a37 := Tryz.isAgg66
  z37 := Tryz.sizeOf66
  v37 := Tryz.zeroValue66
  t46 := Tryz.underlying138
  a46 := Tryz.isAgg138
  z46 := Tryz.sizeOf138
  v46 := Tryz.zeroValue138
  t51 := Tryz.underlying135
  a51 := Tryz.isAgg135
  z51 := Tryz.sizeOf135
  v51 := Tryz.zeroValue135
  t53 := Tryz.underlying128
  a53 := Tryz.isAgg128
  z53 := Tryz.sizeOf128
  v53 := Tryz.zeroValue128
  t171 := Tryz.underlying127
  a171 := Tryz.isAgg127
  z171 := Tryz.sizeOf127
  v171 := Tryz.zeroValue127
  t173 := Tryz.underlying131
  a173 := Tryz.isAgg131
  z173 := Tryz.sizeOf131
  v173 := Tryz.zeroValue131
  t212 := Tryz.underlying134
  a212 := Tryz.isAgg134
  z212 := Tryz.sizeOf134
  v212 := Tryz.zeroValue134
  t213 := Tryz.underlying136
  a213 := Tryz.isAgg136
  z213 := Tryz.sizeOf136
  t232 := Tryz.underlying141
  a232 := Tryz.isAgg141
  z232 := Tryz.sizeOf141
  v232 := Tryz.zeroValue141
  t233 := Tryz.underlying142
  a233 := Tryz.isAgg142
  z233 := Tryz.sizeOf142
  v233 := Tryz.zeroValue142
  g17 := by kernel_rfl
  g18 := by kernel_rfl
  g19 := by kernel_rfl
  i0 := by kernel_rfl
  i2 := by kernel_rfl
  i3 := by kernel_rfl
  i4 := by kernel_rfl
  i5 := by kernel_rfl
  i9 := by kernel_rfl
  i20 := by kernel_rfl
  i37 := by kernel_rfl
  i46 := by kernel_rfl
  i51 := by kernel_rfl
  i53 := by kernel_rfl
  i171 := by kernel_rfl
  i173 := by kernel_rfl
  i212 := by kernel_rfl
  i232 := by kernel_rfl
  i233 := by kernel_rfl
  m17 := by kernel_rfl
  m18 := by kernel_rfl
  m19 := by kernel_rfl }
open Go.RowKit Go.Sort Go.Lib in
/-- strconv.Itoa: "Itoa is equivalent to FormatInt(int64(i), 10).": i's DECIMAL NUMERAL ('Lib.itoa': a '-' where i is negative, then the digits), FOR EVERY int. The world behind the call: the world before it, new blocks behind the heap (the library's 'var a [24]byte'), draws. (LAID: no walk: one application.) -/
theorem Tryz.strconv_Itoa (n : Int) (h0 : -9223372036854775808 ≤ n) (h1 : n ≤ 9223372036854775807) (w : World) (htab : Lib.TabIs Tryz.prog w "internal/strconv.uint64pow10" .u64 Lib.pow10Tab) :
    Calls Tryz.prog 130 #[.int .i64 n] w fun e w' => e = .returned (.string ⟨(Lib.itoa n).toArray⟩) ∧ ∃ k os, w' = grow (w.drewN k) os := Any.strconv_Itoa Tryz.laysM171 n h0 h1 w htab
def Tryz.lays171_ren : Go.Shelf.Ren := ⟨fun | 171 => 130 | 243 => 155 | 246 => 163 | 283 => 165 | 284 => 166 | 285 => 167 | 286 => 168 | 129 => 170 | 317 => 169 | 318 => 171 | 319 => 172 | 320 => 173 | 337 => 174 | 338 => 175 | n => n, fun | 3 => 3 | 9 => 9 | 2 => 2 | 4 => 4 | 171 => 127 | 0 => 0 | 53 => 128 | 37 => 66 | 5 => 5 | 173 => 131 | 212 => 134 | 51 => 135 | 20 => 20 | 213 => 136 | 46 => 138 | 232 => 141 | 233 => 142 | n => n, fun | 17 => 1 | 18 => 2 | 19 => 3 | n => n⟩
theorem Tryz.lays171 : Go.Proofs.Lays.n171 Tryz.prog Tryz.lays171_ren := {
  mixed := by kernel_rfl
  f129 := Tryz.func170.trans (congrArg some (by kernel_rfl))
  f171 := Tryz.func130.trans (congrArg some (by kernel_rfl))
  f243 := Tryz.func155.trans (congrArg some (by kernel_rfl))
  f246 := Tryz.func163.trans (congrArg some (by kernel_rfl))
  f283 := Tryz.func165.trans (congrArg some (by kernel_rfl))
  f284 := Tryz.func166.trans (congrArg some (by kernel_rfl))
  f285 := Tryz.func167.trans (congrArg some (by kernel_rfl))
  f286 := Tryz.func168.trans (congrArg some (by kernel_rfl))
  f317 := Tryz.func169.trans (congrArg some (by kernel_rfl))
  f318 := Tryz.func171.trans (congrArg some (by kernel_rfl))
  f319 := Tryz.func172.trans (congrArg some (by kernel_rfl))
  f320 := Tryz.func173.trans (congrArg some (by kernel_rfl))
  f337 := Tryz.func174.trans (congrArg some (by kernel_rfl))
  f338 := Tryz.func175.trans (congrArg some (by kernel_rfl))
  t0 := Tryz.underlying0
  a0 := Tryz.isAgg0
  z0 := Tryz.sizeOf0
  v0 := Tryz.zeroValue0
  t2 := Tryz.underlying2
  a2 := Tryz.isAgg2
  z2 := Tryz.sizeOf2
  v2 := Tryz.zeroValue2
  t3 := Tryz.underlying3
  a3 := Tryz.isAgg3
  z3 := Tryz.sizeOf3
  v3 := Tryz.zeroValue3
  t4 := Tryz.underlying4
  a4 := Tryz.isAgg4
  z4 := Tryz.sizeOf4
  v4 := Tryz.zeroValue4
  t5 := Tryz.underlying5
  a5 := Tryz.isAgg5
  z5 := Tryz.sizeOf5
  v5 := Tryz.zeroValue5
  t9 := Tryz.underlying9
  a9 := Tryz.isAgg9
  z9 := Tryz.sizeOf9
  v9 := Tryz.zeroValue9
  t20 := Tryz.underlying20
  a20 := Tryz.isAgg20
  z20 := Tryz.sizeOf20
  v20 := Tryz.zeroValue20
  t37 := Tryz.underlying66
  a37 := Tryz.isAgg66
  z37 := Tryz.sizeOf66
  v37 := Tryz.zeroValue66
  t46 := Tryz.underlying138
  a46 := Tryz.isAgg138
  z46 := Tryz.sizeOf138
  v46 := Tryz.zeroValue138
  t51 := Tryz.underlying135
  a51 := Tryz.isAgg135
  z51 := Tryz.sizeOf135
  v51 := Tryz.zeroValue135
  t53 := Tryz.underlying128
  a53 := Tryz.isAgg128
  z53 := Tryz.sizeOf128
  v53 := Tryz.zeroValue128
  t171 := Tryz.underlying127
  a171 := Tryz.isAgg127
  z171 := Tryz.sizeOf127
  v171 := Tryz.zeroValue127
  t173 := Tryz.underlying131
  a173 := Tryz.isAgg131
  z173 := Tryz.sizeOf131
  v173 := Tryz.zeroValue131
  t212 := Tryz.underlying134
  a212 := Tryz.isAgg134
  z212 := Tryz.sizeOf134
  v212 := Tryz.zeroValue134
  t213 := Tryz.underlying136
  a213 := Tryz.isAgg136
  z213 := Tryz.sizeOf136
  t232 := Tryz.underlying141
  a232 := Tryz.isAgg141
  z232 := Tryz.sizeOf141
  v232 := Tryz.zeroValue141
  t233 := Tryz.underlying142
  a233 := Tryz.isAgg142
  z233 := Tryz.sizeOf142
  v233 := Tryz.zeroValue142
  g17 := by kernel_rfl
  g18 := by kernel_rfl
  g19 := by kernel_rfl }
open Go.RowKit Go.Sort Go.Lib in
/-- THE ROAD WITHOUT THE TABLE: 0 <= i < 100: NO PREMISE ON THE WORLD, AND THE WORLD IS AS IT WAS: a row that keeps its argument in that range need list no table ('laid = []'). (LAID: no walk: one application.) -/
theorem Tryz.strconv_Itoa_small (i : Nat) (hi : i < 100) (w : World) :
    Calls Tryz.prog 130 #[.int .i64 i] w fun e w' => e = .returned (.string ⟨(Lib.decDigits i).toArray⟩) ∧ w' = w := Any.strconv_Itoa_small Tryz.lays171 i hi w
end Go.Proofs
namespace Go.Proofs.YteokdknaadckbaaGreatDoor
open Go.RowKit Go.Lib

theorem layP_len : (ts : List (List UInt8)) → (txt x : List UInt8) → txt.length ≤ 16000 → layP ts txt = some x → x.length ≤ 16000
  | [], txt, x, h, e => by rw [layP] at e; cases e; exact h
  | t :: ts, txt, x, h, e => by
    rw [layP_cons] at e
    split at e
    · next h2 => exact layP_len ts _ x h2 e
    · cases e
/-- what a function of the printer's leaves behind: the text, or that it gave up -/
def LaidPost (p : Nat) (d : Int) (v0 : Value) (R : Option (List UInt8)) (w : World) (e : Ending) (w' : World) : Prop :=
  ∃ v', Lx.Kept p v0 v' w w' ∧ ((∃ x, R = some x ∧ x.length ≤ 16000 ∧ e = .returned (.tuple #[]) ∧ PR w' p x d v') ∨ (R = none ∧ e = treeFault))
theorem own_lt {w : World} {base : Nat} {v : Value} {n : Nat} {xs : List Value} (h : w.ownsRow base 5 1 v n xs) (b : Nat) (hb : w.heap.size ≤ b) : some b ≠ v.ownBlock := by
  rcases h.2 with ⟨rfl, rfl⟩ | ⟨g, cap, cur, rfl, hbg, hg, _⟩
  · simp [Value.ownBlock]
  · have := blk_lt hg
    simp [Value.ownBlock]
    omega
theorem lay_lit (p : Nat) (ts : List (List UInt8)) (cs : Array Value) (hcs : cs = (ts.map fun t => Value.string ⟨t.toArray⟩).toArray) (hts : ∀ t ∈ ts, t ≠ [] ∧ t.length ≤ 64) (hn : ts.length ≤ 3) (N : Nat) (hN : ts.length = N) (txt : List UInt8) (d : Int) (v0 : Value) (cur : World) (h : PR cur p txt d v0) (hx : txt.length ≤ 16000) :
    Calls Tryz.prog 61 #[.pointer (some ⟨p, 0, none⟩), .slice (some ⟨cur.heap.size, 0, none⟩) N N] (cur.alloc (.cells cs 9)) (LaidPost p d v0 (layP ts txt) cur) := by
  subst hN
  have hlt := h.lt
  have hB : Below cur.heap.size cur (cur.alloc (.cells cs 9)) := below_alloc _ _
  refine (lay_any p cur.heap.size ts.length ts hts hn txt d v0 _ (h.below hB) hx (by omega) (by simp) (own_lt h.own _ (Nat.le_refl _)) ?_).mono ?_
  · intro j hj
    have hb : (cur.alloc (.cells cs 9)).heap[cur.heap.size]? = some (.cells cs 9) := heap_alloc_new _ _
    unfold World.cell?
    simp only [hb]
    rw [hcs]
    simp [hj]
  · rintro e w' ⟨v', hk, h2⟩
    refine ⟨v', (Lx.Kept.of_below hB).trans hk, ?_⟩
    rcases h2 with ⟨x, h3, h4, h5⟩ | h3
    · exact Or.inl ⟨x, h3, layP_len _ _ _ hx h3, h4, h5⟩
    · exact Or.inr h3
end Go.Proofs.YteokdknaadckbaaGreatDoor
