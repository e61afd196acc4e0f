/- A text appended to bytes of one's own: what it yields, and where that lies. -/
import Derived.Test.YthnnmgiihpdblaaDoorXj
import Derived.Lib.AppendStr
namespace Go.Proofs.YthnnmgiihpdblaaDoor
open Go.RowKit Go.Lib

theorem info5_ex : ∃ i : TypeInfo, Tryd.prog.info? 5 = some i ∧ i.zero = some (.int .u8 0) ∧ i.size = 1 ∧ i.bytes = 1 :=
  ⟨(Tryd.prog.info? 5).getD default, by kernel_rfl, by kernel_rfl, by kernel_rfl, by kernel_rfl⟩

theorem append_at (base : Nat) (v : Value) (n : Nat) (xs : List Value) (s : ByteArray) (w : World) (ty : TypeId) (hown : w.ownsRow base 5 1 v n xs) (hb : n + s.size ≤ 140737488355328) (hbase : base ≤ w.heap.size) :
    ∃ v' w', (Builtin.append_ #[75, 9] ty #[v, .string s]).run Tryd.prog w = .ok v' w' ∧ w'.ownsRow base 5 1 v' (n + s.size) (xs ++ strCells s) ∧ w.grownBy w' v.ownBlock ∧ (v'.ownBlock = v.ownBlock ∨ v'.ownBlock = some w.heap.size) := by
  have h63 : n + s.size ≤ maxLen := Nat.le_trans hb (by decide)
  obtain ⟨info5, info5_is, info5_zero, info5_size, info5_bytes⟩ := info5_ex
  obtain ⟨v', w', hr, h1, h2, h3⟩ := run_append_own_string (P := Tryd.prog) w base 75 9 ty 5 info5 Tryd.underlying75 Tryd.underlying9 info5_is info5_zero info5_size info5_bytes v n xs hown s h63 hb hbase
  refine ⟨v', w', hr, h1, h2, ?_⟩
  have hxl : xs.length = n := by simpa using hown.1
  rcases hown.2 with ⟨rfl, rfl⟩ | ⟨g, cap, cur, rfl, hbg, hg, hnc, hcm, hcs, htake⟩
  · by_cases hm : s.size = 0
    · left
      rw [h3.2 ⟨rfl, hm⟩]
    · right
      have hr2 := run_append_nil_string (P := Tryd.prog) w 75 9 ty 5 info5 (.int .u8 0) Tryd.underlying75 Tryd.underlying9 info5_is info5_zero s (by omega) (by omega) (by rw [info5_bytes]; omega)
      rw [hr2] at hr
      cases hr
      rfl
  · by_cases hroom : n + s.size ≤ cap
    · left
      have hr2 := run_append_room_string (P := Tryd.prog) w 75 9 ty 5 info5 Tryd.underlying75 Tryd.underlying9 info5_is info5_size g n cap cur hg s hroom (by simp at hcs; omega)
      rw [hr2] at hr
      cases hr
      rfl
    · right
      have holds : ∀ j u, xs[j]? = some u → w.cell? ((⟨g, 0, none⟩ : Addr).add j) = some u := hown.cells (g := g) rfl
      have hr2 := run_append_grow_string (P := Tryd.prog) w 75 9 ty 5 info5 (.int .u8 0) Tryd.underlying75 Tryd.underlying9 info5_is info5_zero ⟨g, 0, none⟩ n cap xs (by rw [info5_size]; simpa using hxl) holds s (by omega) (by omega) (by rw [info5_bytes]; exact growslice_fits (by omega) (by omega))
      rw [hr2] at hr
      cases hr
      rfl

/-- The operation, for a walk. -/
theorem wpList_append_at {ops : Array Oper} {rest : List Oper} {o : Oper} {a : Act} {Q : Exit → Act → World → Prop} {w : World} (hgd : o.guard = none) (sl x : Operand)
    (ho : o.op = .call { callee := .builtin .append, args := #[sl, x], argTypes := #[75, 9] })
    (base : Nat) (v : Value) (n : Nat) (xs : List Value) (hs : a.eval sl = v) (hown : w.ownsRow base 5 1 v n xs) (s : ByteArray) (hx : a.eval x = .string s)
    (hb : n + s.size ≤ 140737488355328) (hbase : base ≤ w.heap.size)
    (h : ∀ v' w', w'.ownsRow base 5 1 v' (n + s.size) (xs ++ strCells s) → w.grownBy w' v.ownBlock → (v'.ownBlock = v.ownBlock ∨ v'.ownBlock = some w.heap.size) → wpList Tryd.prog ops Q rest (a.put o.dst v') w') : wpList Tryd.prog ops Q (o :: rest) a w := by
  refine wpList_plain hgd fun K hK => ?_
  obtain ⟨v', w', hr, h2, h3, h4⟩ := append_at base v n xs s w o.type hown hb hbase
  unfold Oper.wp execOp
  simp only [ho, resolve, invoke, builtin, Sem.run_bind, Sem.run_pure, Result.andThen_ok, List.map_toArray, List.map_cons, List.map_nil, hs, hx, hr]
  exact hK _ _ (h v' w' h2 h3 h4)

end Go.Proofs.YthnnmgiihpdblaaDoor
