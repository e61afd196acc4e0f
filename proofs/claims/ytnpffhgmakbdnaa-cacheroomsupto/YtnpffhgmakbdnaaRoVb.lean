/- CacheRooms: rows of numbers that are cut in front and grow behind; what holds at each step. -/
import Derived.Test.YtnpffhgmakbdnaaRoVa
import Derived.Test.YtnpffhgmakbdnaaRoOb
import Derived.ArgAppend
import Derived.WideShapes
namespace Go.Proofs.Ytnpffhgmakbdnaa
open Go.RowKit
theorem info3 : ∃ i : TypeInfo, Try.prog.info? 3 = some i ∧ i.zero = some (.int .i64 0) ∧ i.size = 1 ∧ i.bytes = 8 :=
  ⟨(Try.prog.info? 3).getD default, by kernel_rfl, by kernel_rfl, by kernel_rfl, by kernel_rfl⟩
/-- the numbers lo, lo + 1 .., ln of them, in a block of a tag -/
def WT (K : Nat → Nat) (w : World) (t : Nat) (v : Value) (lo ln : Nat) : Prop :=
  (v = .slice none 0 0 ∧ ln = 0) ∨ ∃ g o cap cs, v = .slice (some ⟨g, o, none⟩) ln cap ∧ ln ≤ cap ∧ w.heap[g]? = some (.cells cs 3 (0, 0)) ∧ o + cap ≤ cs.size ∧ (∀ j, j < ln → cs[o + j]? = some (.int .i64 ((lo + j : Nat) : Int))) ∧ K g = t
section
variable {K K' : Nat → Nat} {w w' : World} {t lo ln : Nat} {v : Value}
theorem WT.mv {T : Nat → Prop} (h : WT K w t v lo ln) (m : Mv T w w' K K') (ht : ¬ T t) : WT K' w' t v lo ln := by
  rcases h with h | ⟨g, o, cap, cs, e1, e2, e3, e4, e5, e6⟩
  · exact .inl h
  · have hlt := (Array.getElem?_eq_some_iff.1 e3).1
    exact .inr ⟨g, o, cap, cs, e1, e2, (m.kept g hlt (by rw [e6]; exact ht)).trans e3, e4, e5, (m.old g hlt).trans e6⟩
theorem WT.form (h : WT K w t v lo ln) : ∃ oa cap, v = .slice oa ln cap ∧ ln ≤ cap := by
  rcases h with ⟨h, e⟩ | ⟨g, o, cap, cs, e1, e2, _⟩
  · exact ⟨none, 0, by rw [e]; exact h, by omega⟩
  · exact ⟨_, cap, e1, e2⟩
theorem WT.at (h : WT K w t v lo ln) (hp : 0 < ln) : ∃ g o cap, v = .slice (some ⟨g, o, none⟩) ln cap ∧ ln ≤ cap ∧ ∀ j, j < ln → w.cell? ⟨g, o + j, none⟩ = some (.int .i64 ((lo + j : Nat) : Int)) := by
  rcases h with ⟨_, e⟩ | ⟨g, o, cap, cs, e1, e2, e3, e4, e5, _⟩
  · omega
  · refine ⟨g, o, cap, e1, e2, fun j hj => ?_⟩
    unfold World.cell?
    rw [e3]
    exact e5 j hj
theorem WT.nil (K : Nat → Nat) (w : World) (t lo : Nat) : WT K w t (.slice none 0 0) lo 0 := .inl ⟨rfl, rfl⟩
/-- the first is cut off -/
theorem WT.cut (h : WT K w t v lo ln) (hp : 0 < ln) : ∃ v', (∀ w, (Instr.slice 57 v (some (.int .i64 1)) none none).run Try.prog w = .ok v' w) ∧ WT K w t v' (lo + 1) (ln - 1) := by
  rcases h with ⟨_, e⟩ | ⟨g, o, cap, cs, rfl, e2, e3, e4, e5, e6⟩
  · omega
  · obtain ⟨i, hi, _, hs, _⟩ := info3
    have hu := Try.underlying57
    have run : ∀ w, (Instr.slice 57 (.slice (some ⟨g, o, none⟩) ln cap) (some (.int .i64 1)) none none).run Try.prog w = .ok (.slice (if cap = 1 then some ⟨g, o, none⟩ else some ⟨g, o + 1, none⟩) (ln - 1) (cap - 1)) w := fun w => by
      have h1 : (0 : Int) ≤ 1 ∧ (1 : Int) ≤ (ln : Int) := by omega
      simp [Instr.slice, run_underlying hu, Instr.sliceBounds, Instr.sliceBound, asIntOf, h1.2, sizeOf, typeInfo, hi, hs, Addr.add]
    refine ⟨_, run, ?_⟩
    by_cases hc : cap = 1
    · rw [if_pos hc]
      exact .inr ⟨g, o, cap - 1, cs, rfl, by omega, e3, by omega, fun j hj => by omega, e6⟩
    · rw [if_neg hc]
      refine .inr ⟨g, o + 1, cap - 1, cs, rfl, by omega, e3, by omega, fun j hj => ?_, e6⟩
      have := e5 (j + 1) (by omega)
      rw [show o + 1 + j = o + (j + 1) by omega, this]
      congr 3
      omega
/-- one more behind -/
theorem WT.app (h : WT K w t v lo ln) {N : Nat} {s : Int} (hs : s = ((lo + ln : Nat) : Int)) (hb : w.heap[N]? = some (.cells #[.int .i64 s] 3 (0, 0))) (hsm : ln ≤ 1000000000) :
    ∃ v' w' K', (∀ r, (Builtin.append_ #[57, 57] r #[v, .slice (some ⟨N, 0, none⟩) 1 1]).run Try.prog w = .ok v' w') ∧ WT K' w' t v' lo (ln + 1) ∧ Mv (fun x => x = t) w w' K K' := by
  obtain ⟨i, hi, hz, hsz, hby⟩ := info3
  have hnews := World.news_of_block hb
  have own : ∀ {v' : Value} {w1 : World} {xs : List Value}, w1.ownsRow w.heap.size 3 1 v' (ln + 1) (xs ++ [.int .i64 s]) → xs.length = ln → (∀ j, j < ln → xs[j]? = some (.int .i64 ((lo + j : Nat) : Int))) → w.grownBy w1 none → WT (ext w K (fun _ => t)) w1 t v' lo (ln + 1) ∧ Mv (fun x => x = t) w w1 K (ext w K (fun _ => t)) := by
    intro v' w1 xs ho hxl hxs hg
    refine ⟨?_, ⟨hg.os, hg.tape, hg.output, hg.size, fun _ hb => ext_old hb, fun b hb _ => hg.block b hb (fun e => by cases e)⟩⟩
    rcases ho.2 with ⟨_, e⟩ | ⟨g, cap, cur, q1, q2, q3, q4, _, q6, q7⟩
    · omega
    · rw [Nat.mul_one] at q6 q7
      refine .inr ⟨g, 0, cap, cur, q1, q4, q3, by omega, fun j hj => ?_, ext_new q2⟩
      have h9 : (xs ++ [Value.int .i64 s])[j]? = cur.toList[j]? := by
        rw [← q7, List.getElem?_take, if_pos hj]
      rw [Nat.zero_add, ← Array.getElem?_toList, ← h9]
      by_cases hjl : j < ln
      · rw [List.getElem?_append_left (by omega), hxs j hjl]
      · have : j = ln := by omega
        subst this
        rw [List.getElem?_append_right (by omega), hxl, Nat.sub_self, hs]
        rfl
  rcases h with ⟨rfl, e⟩ | ⟨g, o, cap, cs, rfl, e2, e3, e4, e5, e6⟩
  · subst e
    obtain ⟨v', w1, hr, ho, hg, _, _⟩ := run_append_own_at (P := Try.prog) w w.heap.size 57 0 3 i _ 1 8 Try.underlying57 hi hz hsz hby rfl (by omega) (.slice none 0 0) 0 [] ⟨rfl, .inl ⟨rfl, rfl⟩⟩ ⟨N, 0, none⟩ 1 1 [.int .i64 s] rfl hnews (fun u hu => by simp at hu; rw [hu]; rfl) (by unfold maxLen; omega) (by omega) (Nat.le_refl _)
    obtain ⟨r1, r2⟩ := own (xs := []) (by simpa using ho) rfl (fun j hj => by omega) hg
    exact ⟨v', w1, _, fun r => hr, r1, r2⟩
  · by_cases hroom : ln + 1 ≤ cap
    · have hc1 : ∀ j, j < [Value.int .i64 s].length → (w.cell? ⟨g, o + ln * i.size + j, none⟩).isSome = true := fun j hj => by
        simp at hj
        subst hj
        rw [hsz]
        unfold World.cell?
        rw [e3]
        show (cs[o + ln * 1 + 0]?).isSome = true
        rw [Array.getElem?_eq_getElem (by omega)]
        rfl
      have hf1 : ∀ j, j < [Value.int .i64 s].length → w.frozen? ⟨g, o + ln * i.size + j, none⟩ = false := fun j _ => by
        unfold World.frozen?
        rw [e3]; rfl
      have hr := fun r => run_append_room_cells (P := Try.prog) w 57 r 3 i Try.underlying57 hi g o ln cap ⟨N, 0, none⟩ 1 1 [.int .i64 s] (by rw [hsz]; rfl) hnews (fun u hu => by simp at hu; rw [hu]; rfl) hroom hc1 hf1
      rw [hsz, Nat.mul_one] at hr
      refine ⟨_, _, K, hr, ?_, ?_⟩
      · refine .inr ⟨g, o, cap, cs.setIfInBounds (o + ln) (.int .i64 s), rfl, hroom, ?_, by simpa using e4, fun j hj => ?_, e6⟩
        · show (w.setCell ⟨g, o + ln, none⟩ (.int .i64 s)).heap[g]? = _
          unfold World.setCell
          simp [Array.getElem?_modify, e3]
        · by_cases hjl : j = ln
          · subst hjl
            rw [Array.getElem?_setIfInBounds, if_pos rfl, if_pos (by omega), hs]
          · rw [Array.getElem?_setIfInBounds, if_neg (by omega)]
            exact e5 j (by omega)
      · exact Mv.of_set w K ⟨g, o + ln, none⟩ (.int .i64 s) e6
    · have hold : ∀ j u, (((List.range ln).map fun j => Value.int .i64 ((lo + j : Nat) : Int)))[j]? = some u → w.cell? ((⟨g, o, none⟩ : Addr).add j) = some u := by
        intro j u hu
        rw [List.getElem?_map] at hu
        by_cases hj : j < ln
        · rw [List.getElem?_range hj] at hu
          have hu' : Value.int .i64 ((lo + j : Nat) : Int) = u := Option.some.inj hu
          rw [← hu', Go.WideShapes.add_plain]
          unfold World.cell?
          rw [e3]
          exact e5 j hj
        · rw [List.getElem?_eq_none (by simpa using hj)] at hu
          cases hu
      have hgr := fun r => run_append_arg_grows (P := Try.prog) w 57 r 3 i _ 1 8 Try.underlying57 hi hz hsz hby rfl (by omega) ⟨g, o, none⟩ ln cap ((List.range ln).map fun j => Value.int .i64 ((lo + j : Nat) : Int)) (by simp) hold ⟨N, 0, none⟩ 1 1 [.int .i64 s] rfl hnews (by omega) (by unfold maxLen; omega) (by omega)
      obtain ⟨v', w1, hr, ho, hg⟩ := hgr 0
      obtain ⟨r1, r2⟩ := own ho (by simp) (fun j hj => by rw [List.getElem?_map, List.getElem?_range hj]; rfl) hg
      exact ⟨v', w1, _, fun r => hr, r1, r2⟩
end
end Go.Proofs.Ytnpffhgmakbdnaa
