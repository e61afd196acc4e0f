/- ShelfPlays: what a keep was asked, compared. -/
import Derived.Test.YtkkamilmjaochaaPBq
namespace Go.Proofs.Ytkkamilmjaochaa
open Go.RowKit
theorem equalIn32b (w : World) (x y : KeyP) : (Op.equalIn 9999 32 (keyV x) (keyV y)).run Try.prog w = .ok (keyEq x y) w := by
  rw [run_equalIn_agg (ht := fields32) (hp := stood32), fieldsOf32]
  have ek : ∀ x y : Int, (Op.equalIn 9998 3 (.int .i64 x) (.int .i64 y)).run Try.prog w = .ok (x == y) w := fun (x y : Int) => run_equalIn_int (P := Try.prog) w 9997 3 .i64 .i64 x y Try.underlying3
  have es : ∀ x y : ByteArray, (Op.equalIn 9998 9 (.string x) (.string y)).run Try.prog w = .ok (x.toList == y.toList) w := fun x y => run_equalIn_string (P := Try.prog) w 9997 9 x y Try.underlying9
  have n1 : "S" ≠ "_" := by decide
  have n2 : "N" ≠ "_" := by decide
  simp only [Op.eqFields, if_pos n1, if_pos n2, Sem.run_bind]
  rw [part9 w _ 0 (.string x.s) rfl]
  simp only [Result.andThen_ok]
  rw [part9 w _ 0 (.string y.s) rfl]
  simp only [Result.andThen_ok]
  rw [es]
  simp only [Result.andThen_ok]
  unfold keyEq
  cases x.s.toList == y.s.toList
  · rfl
  simp only [Bool.not_true, Bool.false_eq_true, if_false, Sem.run_bind]
  rw [part3 w _ 1 (.int .i64 x.n) rfl]
  simp only [Result.andThen_ok]
  rw [part3 w _ 1 (.int .i64 y.n) rfl]
  simp only [Result.andThen_ok]
  rw [ek]
  simp only [Result.andThen_ok]
  cases x.n == y.n
  · rfl
  · rfl
theorem fields165 : Try.prog.underlying 165 = some (.struct (Try.prog.fieldsOf 165)) := by kernel_rfl
theorem fieldsOf165 : (Try.prog.fieldsOf 165).toList = [⟨"K", 32, 0, false, "", "", 0⟩, ⟨"V", 3, 2, false, "", "", 24⟩, ⟨"Len", 3, 3, false, "", "", 32⟩, ⟨"There", 3, 4, false, "", "", 40⟩] := by unfold Program.fieldsOf; rw [Try.underlying165]
theorem stood165 : Try.prog.stoodInHeld 165 = false := by kernel_rfl
theorem guard165 : Try.prog.eqGuardType Try.prog.depth 165 = false := by kernel_rfl
abbrev asV (a : As) : Value := .agg #[.string a.k.s, .int .i64 a.k.n, .int .i64 a.v, .int .i64 a.len, .int .i64 a.there]
theorem part32 (w : World) (a : As) : (part 32 #[.string a.k.s, .int .i64 a.k.n, .int .i64 a.v, .int .i64 a.len, .int .i64 a.there] 0).run Try.prog w = .ok (keyV a.k) w := by kernel_rfl
theorem equalIn165 (w : World) (x : As) : (Op.equalIn 10000 165 (asV x) (asV x)).run Try.prog w = .ok true w := by
  rw [run_equalIn_agg (ht := fields165) (hp := stood165), fieldsOf165]
  have ek : ∀ x y : Int, (Op.equalIn 9999 3 (.int .i64 x) (.int .i64 y)).run Try.prog w = .ok (x == y) w := fun (x y : Int) => run_equalIn_int (P := Try.prog) w 9998 3 .i64 .i64 x y Try.underlying3
  have n1 : "K" ≠ "_" := by decide
  have n2 : "V" ≠ "_" := by decide
  have n3 : "Len" ≠ "_" := by decide
  have n4 : "There" ≠ "_" := by decide
  have hk : keyEq x.k x.k = true := (keyEq_is _ _).2 rfl
  have p0 := part32 w x
  have p2 := part3 w #[.string x.k.s, .int .i64 x.k.n, .int .i64 x.v, .int .i64 x.len, .int .i64 x.there] 2 (.int .i64 x.v) rfl
  have p3 := part3 w #[.string x.k.s, .int .i64 x.k.n, .int .i64 x.v, .int .i64 x.len, .int .i64 x.there] 3 (.int .i64 x.len) rfl
  have p4 := part3 w #[.string x.k.s, .int .i64 x.k.n, .int .i64 x.v, .int .i64 x.len, .int .i64 x.there] 4 (.int .i64 x.there) rfl
  have e0 := equalIn32b w x.k x.k
  rw [hk] at e0
  simp only [Op.eqFields, if_pos n1, if_pos n2, if_pos n3, if_pos n4, Sem.run_bind, p0, p2, p3, p4, e0, ek, Result.andThen_ok, beq_self_eq_true, Bool.not_true, Bool.false_eq_true, if_false]
  rfl
theorem neq165 (w : World) (x : As) : (binOp .neq 165 (asV x) (asV x)).run Try.prog w = .ok (.bool false) w := by
  rw [run_neq_struct, equalIn165]; rfl
theorem guard165n (w : World) (op : BinOp) (x y : Operand) (xs ys : Array Value) : (eqGuard op 165 x y (.agg xs) (.agg ys)).run Try.prog w = .ok () w := run_eqGuard_agg w op 165 x y xs ys guard165
end Go.Proofs.Ytkkamilmjaochaa
