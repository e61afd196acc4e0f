/- Clients compared. -/
import Derived.Test.YtnpffhgmakbdnaaPlOb
namespace Go.Proofs.Ytnpffhgmakbdnaa
open Go.RowKit
theorem fields37 : Try.prog.underlying 37 = some (.struct (Try.prog.fieldsOf 37)) := by kernel_rfl
theorem fieldsOf37 : (Try.prog.fieldsOf 37).toList = [⟨ "Address", 3, 0, false, "", "", 0⟩, ⟨ "Instance", 3, 1, false, "", "", 8⟩] := by unfold Program.fieldsOf; rw [Try.underlying37]
theorem stood37 : Try.prog.stoodInHeld 37 = false := by kernel_rfl
theorem guard37 : Try.prog.eqGuardType Try.prog.depth 37 = false := by kernel_rfl
theorem part3 (w : World) (xs : Array Value) (o : Nat) (v : Value) (h : xs[o]? = some v) : (part 3 xs o).run Try.prog w = .ok v w := by
  unfold part isAgg
  simp [run_underlying Try.underlying3, h]
theorem equalIn37 (w : World) (a i b j : Int) : (Op.equalIn 10000 37 (whoV a i) (whoV b j)).run Try.prog w = .ok (a == b && i == j) w := by
  rw [run_equalIn_agg (ht := fields37) (hp := stood37), fieldsOf37]
  have ek : ∀ x y : Int, (Op.equalIn 9999 3 (.int .i64 x) (.int .i64 y)).run Try.prog w = .ok (x == y) w := fun (x y : Int) => run_equalIn_int (P := Try.prog) w 9998 3 .i64 .i64 x y Try.underlying3
  have n1 : "Address" ≠ "_" := by decide
  have n2 : "Instance" ≠ "_" := by decide
  simp only [Op.eqFields, if_pos n1, if_pos n2, Sem.run_bind]
  rw [part3 w _ 0 (.int .i64 a) rfl]
  simp only [Result.andThen_ok]
  rw [part3 w _ 0 (.int .i64 b) rfl]
  simp only [Result.andThen_ok]
  rw [ek]
  simp only [Result.andThen_ok]
  cases a == b
  · rfl
  simp only [Bool.not_true, Bool.false_eq_true, if_false, Sem.run_bind]
  rw [part3 w _ 1 (.int .i64 i) rfl]
  simp only [Result.andThen_ok]
  rw [part3 w _ 1 (.int .i64 j) rfl]
  simp only [Result.andThen_ok]
  rw [ek]
  simp only [Result.andThen_ok]
  cases i == j
  · rfl
  · rfl
theorem eql37 (w : World) (a i b j : Int) : (binOp .eql 37 (whoV a i) (whoV b j)).run Try.prog w = .ok (.bool (a == b && i == j)) w := by
  rw [run_eql_struct, equalIn37]; rfl
theorem neq37 (w : World) (a i b j : Int) : (binOp .neq 37 (whoV a i) (whoV b j)).run Try.prog w = .ok (.bool (!(a == b && i == j))) w := by
  rw [run_neq_struct, equalIn37]; rfl
theorem guard37n (w : World) (op : BinOp) (x y : Operand) (xs ys : Array Value) : (eqGuard op 37 x y (.agg xs) (.agg ys)).run Try.prog w = .ok () w := run_eqGuard_agg w op 37 x y xs ys guard37
theorem bld48 (w : World) (a i s : Int) : (Instr.build 48 #[(0, whoV a i), (1, .int .i64 s)]).run Try.prog w = .ok (.agg #[.int .i64 a, .int .i64 i, .int .i64 s, .bool false, .string ⟨#[]⟩]) w := by kernel_rfl
theorem bls44 (w : World) (a i s : Int) (d : Bool) (r : ByteArray) : (Instr.buildSlice 44 1 #[(0, .agg #[.int .i64 a, .int .i64 i, .int .i64 s, .bool d, .string r])]).run Try.prog w = .ok (.slice (some ⟨w.heap.size, 0, none⟩) 1 1) (w.alloc (.cells #[.int .i64 a, .int .i64 i, .int .i64 s, .bool d, .string r] 48)) := by kernel_rfl
end Go.Proofs.Ytnpffhgmakbdnaa
