/- The program's Writer: one laying, whatever stood there; Fail likewise. -/
import Derived.Test.YthnnmgiihpdblaaDoorXo
namespace Go.Proofs.YthnnmgiihpdblaaDoor
open Go.RowKit

/-- What a call of the program's Writer leaves. -/
def PWrote (p : Nat) (v : Value) (M : Int) (r : ByteArray × Int) (w : World) (e : Ending) (w' : World) : Prop :=
  e = .returned (.tuple #[]) ∧ ∃ v', PW w' p v' M (Lib.strCells r.1) r.2 ∧ Kept p v v' w w'

theorem Kept.refl (p : Nat) (v : Value) (w : World) : Kept p v v w w := ⟨rfl, rfl, rfl, Nat.le_refl _, fun _ _ _ _ => rfl, .inl rfl⟩
theorem Kept.drewN (p : Nat) (v : Value) (w : World) (k : Nat) : Kept p v v w (w.drewN k) := ⟨rfl, rfl, rfl, Nat.le_refl _, fun _ _ _ _ => rfl, .inl rfl⟩
theorem Kept.drewNSet (p : Nat) (v : Value) (w : World) (k o : Nat) (u : Value) : Kept p v v w ((w.drewN k).setCell ⟨p, o, none⟩ u) :=
  ⟨rfl, rfl, rfl, by simp [World.setCell], fun b _ hb _ => Below.heap_setCell _ _ _ b hb, .inl rfl⟩
theorem PW.drewN {w : World} {p : Nat} {v : Value} {M E : Int} {xs : List Value} (h : PW w p v M xs E) (k : Nat) : PW (w.drewN k) p v M xs E := ⟨h.m, h.s, h.e, h.f1, h.f2, h.own⟩
theorem PW.setE {w : World} {p : Nat} {v : Value} {M E : Int} {xs : List Value} (h : PW w p v M xs E) (F : Int) : PW (w.setCell ⟨p, 2, none⟩ (trV F)) p v M xs F := by
  have hgs : w.grownBy (w.setCell ⟨p, 2, none⟩ (trV F)) (some p) := ⟨rfl, rfl, rfl, by simp, fun k _ hk => Below.heap_setCell _ _ _ k (fun e => hk (by rw [e]))⟩
  refine ⟨?_, ?_, World.cell?_setCell_same _ _ _ h.e, ?_, ?_, h.own.kept hgs (.inr fun e => by have := (h.own.lt p e).1; omega)⟩
  · rw [World.cell?_setCell_other _ _ _ _ (by simp)]; exact h.m
  · rw [World.cell?_setCell_other _ _ _ _ (by simp)]; exact h.s
  · rw [World.frozen?_setCell]; exact h.f1
  · rw [World.frozen?_setCell]; exact h.f2

/-- Behind other steps that touch neither the Writer's block nor its bytes. -/
theorem Kept.trans {p : Nat} {v1 v2 v3 : Value} {a b c : World} (h : Kept p v1 v2 a b) (k : Kept p v2 v3 b c) : Kept p v1 v3 a c := by
  refine ⟨k.os.trans h.os, k.tape.trans h.tape, k.output.trans h.output, Nat.le_trans h.size k.size, ?_, ?_⟩
  · intro i hi hp hv
    have hv2 : some i ≠ v2.ownBlock := by
      rcases h.row with e | ⟨g, hg1, e⟩
      · rw [e]; exact hv
      · rw [e]; intro e2; cases e2; omega
    exact (k.block i (Nat.lt_of_lt_of_le hi h.size) hp hv2).trans (h.block i hi hp hv)
  · rcases k.row with e | ⟨g, hg1, e⟩
    · rw [e]; exact h.row
    · exact .inr ⟨g, Nat.le_trans h.size hg1, e⟩
theorem Kept.of_below {p : Nat} {v : Value} {a b : World} (h : Below a.heap.size a b) : Kept p v v a b := ⟨h.os, h.tape, h.output, h.size, fun i hi _ _ => h.block i hi, .inl rfl⟩
theorem PW.below {w w' : World} {p : Nat} {v : Value} {M E : Int} {xs : List Value} (h : PW w p v M xs E) (hB : Below w.heap.size w w') : PW w' p v M xs E := by
  have hb : w'.heap[p]? = w.heap[p]? := hB.block p h.lt
  have hg : w.grownBy w' none := ⟨hB.os, hB.tape, hB.output, hB.size, fun k hk _ => hB.block k hk⟩
  exact ⟨(cells_of_block hb 0).1.trans h.m, (cells_of_block hb 1).1.trans h.s, (cells_of_block hb 2).1.trans h.e, (cells_of_block hb 1).2.trans h.f1, (cells_of_block hb 2).2.trans h.f2,
    h.own.kept hg (by cases hq : v.ownBlock with | none => exact .inl rfl | some g => exact .inr (by simp))⟩

/-- One laying of the program's Writer is the document's. -/
theorem lay_any (p q m : Nat) (v : Value) (M E : Int) (S J : ByteArray) (ps : List ByteArray) (w : World) (h : PW w p v M (Lib.strCells S) E) (hc : ∀ j, j < ps.length → w.cell? ⟨q, j, none⟩ = some (.string (ps.getD j ⟨#[]⟩)))
    (hq1 : q < w.heap.size) (hqp : q ≠ p) (hqv : some q ≠ v.ownBlock) (hps : ps.length = m) (hm : m ≤ 100) (hJ : cellsOf ps ps.length = Lib.strCells J) (hM0 : 0 ≤ M) (hM1 : M ≤ 9223372036854775807) (hb : S.size + J.size ≤ 140737488355328) :
    Calls Tryd.prog 97 #[.pointer (some ⟨p, 0, none⟩), .slice (some ⟨q, 0, none⟩) m m] w (PWrote p v M (rlay M S E J) w) := by
  subst hps
  have hT : tot ps ps.length = J.size := by rw [← cellsOf_len ps _ (Nat.le_refl _), hJ, Lib.strCells_length]
  have hL : (Lib.strCells S).length = S.size := Lib.strCells_length S
  unfold rlay
  by_cases hE : E = 0
  · subst hE
    rw [if_neg (by simp)]
    by_cases hl : M < (S.size : Int) + (J.size : Int)
    · rw [if_pos hl]
      refine (lay_long p q v M (Lib.strCells S) ps w h hc hm hM0 hM1 (by omega) (by omega) (by omega)).mono ?_
      rintro e w' ⟨rfl, k, rfl⟩
      exact ⟨rfl, v, (h.drewN k).setE 23, Kept.drewNSet p v w k 2 _⟩
    · rw [if_neg hl]
      refine (lay_fits p q v M (Lib.strCells S) ps w h hc hq1 hqp hqv hm hM0 hM1 (by omega) (by omega) (by omega) (by omega)).mono ?_
      rintro e w' ⟨rfl, v', h1, h2⟩
      refine ⟨rfl, v', ?_, h2⟩
      have e1 : Lib.strCells (S ++ J) = Lib.strCells S ++ cellsOf ps ps.length := by rw [hJ]; simp [Lib.strCells]
      rw [e1]
      exact h1
  · rw [if_pos hE]
    refine (lay_wrong p q v M E (Lib.strCells S) ps w h hE hc hm hM0 hM1 (by omega) (by omega)).mono ?_
    rintro e w' ⟨rfl, k, rfl⟩
    exact ⟨rfl, v, h.drewN k, Kept.drewN p v w k⟩

theorem pfail_any (p : Nat) (v : Value) (M E F : Int) (S : ByteArray) (w : World) (h : PW w p v M (Lib.strCells S) E) :
    Calls Tryd.prog 84 #[.pointer (some ⟨p, 0, none⟩), .int .i64 F] w (PWrote p v M (S, firstE E F) w) := by
  unfold firstE
  by_cases hE : E = 0
  · subst hE
    rw [if_pos rfl]
    refine (pfail_first p v M F _ w h).mono ?_
    rintro e w' ⟨rfl, k, rfl⟩
    exact ⟨rfl, v, (h.drewN k).setE F, Kept.drewNSet p v w k 2 _⟩
  · rw [if_neg hE]
    refine (pfail_later p v M E F _ w h hE).mono ?_
    rintro e w' ⟨rfl, k, rfl⟩
    exact ⟨rfl, v, h.drewN k, Kept.drewN p v w k⟩

end Go.Proofs.YthnnmgiihpdblaaDoor
