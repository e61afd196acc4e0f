/- Two credentials held against one another. -/
import Derived.Test.YtihcdahmfdijoaaDoorCx
import Derived.Laws.StructEq
namespace Go.Proofs.YtihcdahmfdijoaaDoor
open Go.RowKit
theorem fieldsA : Tryd.prog.underlying 32 = some (.struct (Tryd.prog.fieldsOf 32)) := by kernel_rfl
theorem fieldsOfA : (Tryd.prog.fieldsOf 32).toList = [⟨"Flavor", 3, 0, false, "", "", 0⟩, ⟨"Body", 9, 1, false, "", "", 8⟩] := by unfold Program.fieldsOf; rw [Tryd.underlying32]
theorem stoodA : Tryd.prog.stoodInHeld 32 = false := by kernel_rfl
theorem guardA : Tryd.prog.eqGuardType Tryd.prog.depth 32 = false := by kernel_rfl
theorem partI (w : World) (xs : Array Value) (o : Nat) (v : Value) (h : xs[o]? = some v) : (part 3 xs o).run Tryd.prog w = .ok v w := by
  unfold part isAgg
  simp [run_underlying Tryd.underlying3, h]
theorem partS (w : World) (xs : Array Value) (o : Nat) (v : Value) (h : xs[o]? = some v) : (part 9 xs o).run Tryd.prog w = .ok v w := by
  unfold part isAgg
  simp [run_underlying Tryd.underlying9, h]
theorem equalInA (w : World) (f g : Int) (x y : ByteArray) : (Op.equalIn 10000 32 (.agg #[.int .i64 f, .string x]) (.agg #[.int .i64 g, .string y])).run Tryd.prog w = .ok (f == g && x.toList == y.toList) w := by
  rw [run_equalIn_agg (ht := fieldsA) (hp := stoodA), fieldsOfA]
  have ek : ∀ x y : Int, (Op.equalIn 9999 3 (.int .i64 x) (.int .i64 y)).run Tryd.prog w = .ok (x == y) w := fun (x y : Int) => run_equalIn_int (P := Tryd.prog) w 9998 3 .i64 .i64 x y Tryd.underlying3
  have es : ∀ x y : ByteArray, (Op.equalIn 9999 9 (.string x) (.string y)).run Tryd.prog w = .ok (x.toList == y.toList) w := fun (x y : ByteArray) => run_equalIn_string (P := Tryd.prog) w 9998 9 x y Tryd.underlying9
  have n1 : "Flavor" ≠ "_" := by decide
  have n2 : "Body" ≠ "_" := by decide
  simp only [Op.eqFields, if_pos n1, if_pos n2, Sem.run_bind]
  rw [partI w _ 0 (.int .i64 f) rfl]
  simp only [Result.andThen_ok]
  rw [partI w _ 0 (.int .i64 g) rfl]
  simp only [Result.andThen_ok]
  rw [ek]
  simp only [Result.andThen_ok]
  cases f == g
  · rfl
  simp only [Bool.not_true, Bool.false_eq_true, if_false, Sem.run_bind]
  rw [partS w _ 1 (.string x) rfl]
  simp only [Result.andThen_ok]
  rw [partS w _ 1 (.string y) rfl]
  simp only [Result.andThen_ok]
  rw [es]
  simp only [Result.andThen_ok]
  cases x.toList == y.toList
  · rfl
  · rfl
theorem eqlA (w : World) (f g : Int) (x y : ByteArray) : (binOp .eql 32 (.agg #[.int .i64 f, .string x]) (.agg #[.int .i64 g, .string y])).run Tryd.prog w = .ok (.bool (f == g && x.toList == y.toList)) w := by
  rw [run_eql_struct, equalInA]; rfl
theorem neqA (w : World) (f g : Int) (x y : ByteArray) : (binOp .neq 32 (.agg #[.int .i64 f, .string x]) (.agg #[.int .i64 g, .string y])).run Tryd.prog w = .ok (.bool (!(f == g && x.toList == y.toList))) w := by
  rw [run_neq_struct, equalInA]; rfl
theorem guardAn (w : World) (op : BinOp) (x y : Operand) (xs ys : Array Value) : (eqGuard op 32 x y (.agg xs) (.agg ys)).run Tryd.prog w = .ok () w := run_eqGuard_agg w op 32 x y xs ys guardA
end Go.Proofs.YtihcdahmfdijoaaDoor
