/- Messages held against themselves. -/
import Derived.Test.YtebjheaohichpaaGreatDoorMx
import Derived.Laws.StructEq
namespace Go.Proofs.YtebjheaohichpaaGreatDoor
open Go.RowKit
theorem fieldsA : Tryz.prog.underlying 23 = some (.struct (Tryz.prog.fieldsOf 23)) := by kernel_rfl
theorem fieldsOfA : (Tryz.prog.fieldsOf 23).toList = [⟨"Flavor", 3, 0, false, "", "", 0⟩, ⟨"Body", 9, 1, false, "", "", 8⟩] := by unfold Program.fieldsOf; rw [Tryz.underlying23]
theorem stoodA : Tryz.prog.stoodInHeld 23 = false := by kernel_rfl
theorem partI (w : World) (xs : Array Value) (o : Nat) (v : Value) (h : xs[o]? = some v) : (part 3 xs o).run Tryz.prog w = .ok v w := by
  unfold part isAgg
  simp [run_underlying Tryz.underlying3, h]
theorem partS (w : World) (xs : Array Value) (o : Nat) (v : Value) (h : xs[o]? = some v) : (part 9 xs o).run Tryz.prog w = .ok v w := by
  unfold part isAgg
  simp [run_underlying Tryz.underlying9, h]
theorem partB (w : World) (xs : Array Value) (o : Nat) (v : Value) (h : xs[o]? = some v) : (part 4 xs o).run Tryz.prog w = .ok v w := by
  unfold part isAgg
  simp [run_underlying Tryz.underlying4, h]
theorem ekI (w : World) (d : Nat) (x : Int) : (Op.equalIn (d + 1) 3 (.int .i64 x) (.int .i64 x)).run Tryz.prog w = .ok true w := by
  rw [run_equalIn_int (P := Tryz.prog) w d 3 .i64 .i64 x x Tryz.underlying3, beq_self_eq_true]
theorem ekS (w : World) (d : Nat) (x : ByteArray) : (Op.equalIn (d + 1) 9 (.string x) (.string x)).run Tryz.prog w = .ok true w := by
  rw [run_equalIn_string (P := Tryz.prog) w d 9 x x Tryz.underlying9, beq_self_eq_true]
theorem ekB (w : World) (d : Nat) (x : Bool) : (Op.equalIn (d + 1) 4 (.bool x) (.bool x)).run Tryz.prog w = .ok true w := by
  simp [Op.equalIn, run_underlying Tryz.underlying4]
theorem ekA (w : World) (d : Nat) (f : Int) (x : ByteArray) : (Op.equalIn (d + 2) 23 (.agg #[.int .i64 f, .string x]) (.agg #[.int .i64 f, .string x])).run Tryz.prog w = .ok true w := by
  rw [run_equalIn_struct w (d + 1) _ _ _ fieldsA stoodA, fieldsOfA]
  have n1 : "Flavor" ≠ "_" := by decide
  have n2 : "Body" ≠ "_" := by decide
  simp only [Op.eqFields, if_pos n1, if_pos n2, Sem.run_bind]
  have p0 : ∀ w, (part 3 #[.int .i64 f, .string x] 0).run Tryz.prog w = .ok (.int .i64 f) w := fun w => partI w _ 0 _ rfl
  simp only [p0, Result.andThen_ok]
  rw [ekI]
  simp only [Result.andThen_ok, Bool.not_true, Bool.false_eq_true, if_false, Sem.run_bind]
  have p1 : ∀ w, (part 9 #[.int .i64 f, .string x] 1).run Tryz.prog w = .ok (.string x) w := fun w => partS w _ 1 _ rfl
  simp only [p1, Result.andThen_ok]
  rw [ekS]
  rfl
theorem sizeA : Tryz.prog.cellsOf 23 = 2 := by kernel_rfl
theorem fieldsC : Tryz.prog.underlying 25 = some (.struct (Tryz.prog.fieldsOf 25)) := by kernel_rfl
theorem stoodC : Tryz.prog.stoodInHeld 25 = false := by kernel_rfl
theorem guardC : Tryz.prog.eqGuardType Tryz.prog.depth 25 = false := by kernel_rfl
theorem fieldsOfC : (Tryz.prog.fieldsOf 25).toList = [⟨"Xid", 3, 0, false, "", "", 0⟩, ⟨"Rpc", 3, 1, false, "", "", 8⟩, ⟨"Prog", 3, 2, false, "", "", 16⟩, ⟨"Vers", 3, 3, false, "", "", 24⟩, ⟨"Proc", 3, 4, false, "", "", 32⟩, ⟨"Cred", 23, 5, false, "", "", 40⟩, ⟨"Verf", 23, 7, false, "", "", 64⟩, ⟨"Args", 9, 9, false, "", "", 88⟩] := by unfold Program.fieldsOf; rw [Tryz.underlying25]
theorem ekC (w : World) (c : CallP) : (Op.equalIn 10000 25 (.agg (callV c).toArray) (.agg (callV c).toArray)).run Tryz.prog w = .ok true w := by
  rw [run_equalIn_struct w 9999 _ _ _ fieldsC stoodC, fieldsOfC]
  have n0 : "Xid" ≠ "_" := by decide
  have n1 : "Rpc" ≠ "_" := by decide
  have n2 : "Prog" ≠ "_" := by decide
  have n3 : "Vers" ≠ "_" := by decide
  have n4 : "Proc" ≠ "_" := by decide
  have n5 : "Cred" ≠ "_" := by decide
  have n6 : "Verf" ≠ "_" := by decide
  have n7 : "Args" ≠ "_" := by decide
  simp only [Op.eqFields, if_pos n0, if_pos n1, if_pos n2, if_pos n3, if_pos n4, if_pos n5, if_pos n6, if_pos n7, Sem.run_bind]
  have p0 : ∀ w, (part 3 (callV c).toArray 0).run Tryz.prog w = .ok (.int .i64 c.xid) w := fun w => partI w _ 0 _ rfl
  simp only [p0, Result.andThen_ok]
  rw [ekI]
  simp only [Result.andThen_ok, Bool.not_true, Bool.false_eq_true, if_false, Sem.run_bind]
  have p1 : ∀ w, (part 3 (callV c).toArray 1).run Tryz.prog w = .ok (.int .i64 c.rpc) w := fun w => partI w _ 1 _ rfl
  simp only [p1, Result.andThen_ok]
  rw [ekI]
  simp only [Result.andThen_ok, Bool.not_true, Bool.false_eq_true, if_false, Sem.run_bind]
  have p2 : ∀ w, (part 3 (callV c).toArray 2).run Tryz.prog w = .ok (.int .i64 c.prog) w := fun w => partI w _ 2 _ rfl
  simp only [p2, Result.andThen_ok]
  rw [ekI]
  simp only [Result.andThen_ok, Bool.not_true, Bool.false_eq_true, if_false, Sem.run_bind]
  have p3 : ∀ w, (part 3 (callV c).toArray 3).run Tryz.prog w = .ok (.int .i64 c.vers) w := fun w => partI w _ 3 _ rfl
  simp only [p3, Result.andThen_ok]
  rw [ekI]
  simp only [Result.andThen_ok, Bool.not_true, Bool.false_eq_true, if_false, Sem.run_bind]
  have p4 : ∀ w, (part 3 (callV c).toArray 4).run Tryz.prog w = .ok (.int .i64 c.proc) w := fun w => partI w _ 4 _ rfl
  simp only [p4, Result.andThen_ok]
  rw [ekI]
  simp only [Result.andThen_ok, Bool.not_true, Bool.false_eq_true, if_false, Sem.run_bind]
  have p5 : ∀ w, (part 23 (callV c).toArray 5).run Tryz.prog w = .ok (.agg #[.int .i64 c.cred.flavor, .string ⟨c.cred.body.toArray⟩]) w := fun w => by kernel_rfl
  simp only [p5, Result.andThen_ok]
  rw [ekA]
  simp only [Result.andThen_ok, Bool.not_true, Bool.false_eq_true, if_false, Sem.run_bind]
  have p6 : ∀ w, (part 23 (callV c).toArray 7).run Tryz.prog w = .ok (.agg #[.int .i64 c.verf.flavor, .string ⟨c.verf.body.toArray⟩]) w := fun w => by kernel_rfl
  simp only [p6, Result.andThen_ok]
  rw [ekA]
  simp only [Result.andThen_ok, Bool.not_true, Bool.false_eq_true, if_false, Sem.run_bind]
  have p7 : ∀ w, (part 9 (callV c).toArray 9).run Tryz.prog w = .ok (.string ⟨c.args.toArray⟩) w := fun w => partS w _ 9 _ rfl
  simp only [p7, Result.andThen_ok]
  rw [ekS]
  rfl
theorem eqlC (w : World) (c : CallP) : (binOp .eql 25 (.agg (callV c).toArray) (.agg (callV c).toArray)).run Tryz.prog w = .ok (.bool true) w := by
  rw [run_eql_struct, ekC]; rfl
theorem neqC (w : World) (c : CallP) : (binOp .neq 25 (.agg (callV c).toArray) (.agg (callV c).toArray)).run Tryz.prog w = .ok (.bool false) w := by
  rw [run_neq_struct, ekC]; rfl
theorem guardCn (w : World) (op : BinOp) (x y : Operand) (xs ys : Array Value) : (eqGuard op 25 x y (.agg xs) (.agg ys)).run Tryz.prog w = .ok () w := run_eqGuard_agg w op 25 x y xs ys guardC
theorem fieldsR : Tryz.prog.underlying 27 = some (.struct (Tryz.prog.fieldsOf 27)) := by kernel_rfl
theorem stoodR : Tryz.prog.stoodInHeld 27 = false := by kernel_rfl
theorem guardR : Tryz.prog.eqGuardType Tryz.prog.depth 27 = false := by kernel_rfl
theorem fieldsOfR : (Tryz.prog.fieldsOf 27).toList = [⟨"Xid", 3, 0, false, "", "", 0⟩, ⟨"Denied", 4, 1, false, "", "", 8⟩, ⟨"Verf", 23, 2, false, "", "", 16⟩, ⟨"Accept", 3, 4, false, "", "", 40⟩, ⟨"Reject", 3, 5, false, "", "", 48⟩, ⟨"Why", 3, 6, false, "", "", 56⟩, ⟨"Low", 3, 7, false, "", "", 64⟩, ⟨"High", 3, 8, false, "", "", 72⟩, ⟨"Results", 9, 9, false, "", "", 80⟩] := by unfold Program.fieldsOf; rw [Tryz.underlying27]
theorem ekR (w : World) (c : ReplyP) : (Op.equalIn 10000 27 (.agg (replyV c).toArray) (.agg (replyV c).toArray)).run Tryz.prog w = .ok true w := by
  rw [run_equalIn_struct w 9999 _ _ _ fieldsR stoodR, fieldsOfR]
  have n0 : "Xid" ≠ "_" := by decide
  have n1 : "Denied" ≠ "_" := by decide
  have n2 : "Verf" ≠ "_" := by decide
  have n3 : "Accept" ≠ "_" := by decide
  have n4 : "Reject" ≠ "_" := by decide
  have n5 : "Why" ≠ "_" := by decide
  have n6 : "Low" ≠ "_" := by decide
  have n7 : "High" ≠ "_" := by decide
  have n8 : "Results" ≠ "_" := by decide
  simp only [Op.eqFields, if_pos n0, if_pos n1, if_pos n2, if_pos n3, if_pos n4, if_pos n5, if_pos n6, if_pos n7, if_pos n8, Sem.run_bind]
  have p0 : ∀ w, (part 3 (replyV c).toArray 0).run Tryz.prog w = .ok (.int .i64 c.xid) w := fun w => partI w _ 0 _ rfl
  simp only [p0, Result.andThen_ok]
  rw [ekI]
  simp only [Result.andThen_ok, Bool.not_true, Bool.false_eq_true, if_false, Sem.run_bind]
  have p1 : ∀ w, (part 4 (replyV c).toArray 1).run Tryz.prog w = .ok (.bool c.denied) w := fun w => partB w _ 1 _ rfl
  simp only [p1, Result.andThen_ok]
  rw [ekB]
  simp only [Result.andThen_ok, Bool.not_true, Bool.false_eq_true, if_false, Sem.run_bind]
  have p2 : ∀ w, (part 23 (replyV c).toArray 2).run Tryz.prog w = .ok (.agg #[.int .i64 c.verf.flavor, .string ⟨c.verf.body.toArray⟩]) w := fun w => by kernel_rfl
  simp only [p2, Result.andThen_ok]
  rw [ekA]
  simp only [Result.andThen_ok, Bool.not_true, Bool.false_eq_true, if_false, Sem.run_bind]
  have p3 : ∀ w, (part 3 (replyV c).toArray 4).run Tryz.prog w = .ok (.int .i64 c.accept) w := fun w => partI w _ 4 _ rfl
  simp only [p3, Result.andThen_ok]
  rw [ekI]
  simp only [Result.andThen_ok, Bool.not_true, Bool.false_eq_true, if_false, Sem.run_bind]
  have p4 : ∀ w, (part 3 (replyV c).toArray 5).run Tryz.prog w = .ok (.int .i64 c.reject) w := fun w => partI w _ 5 _ rfl
  simp only [p4, Result.andThen_ok]
  rw [ekI]
  simp only [Result.andThen_ok, Bool.not_true, Bool.false_eq_true, if_false, Sem.run_bind]
  have p5 : ∀ w, (part 3 (replyV c).toArray 6).run Tryz.prog w = .ok (.int .i64 c.why) w := fun w => partI w _ 6 _ rfl
  simp only [p5, Result.andThen_ok]
  rw [ekI]
  simp only [Result.andThen_ok, Bool.not_true, Bool.false_eq_true, if_false, Sem.run_bind]
  have p6 : ∀ w, (part 3 (replyV c).toArray 7).run Tryz.prog w = .ok (.int .i64 c.low) w := fun w => partI w _ 7 _ rfl
  simp only [p6, Result.andThen_ok]
  rw [ekI]
  simp only [Result.andThen_ok, Bool.not_true, Bool.false_eq_true, if_false, Sem.run_bind]
  have p7 : ∀ w, (part 3 (replyV c).toArray 8).run Tryz.prog w = .ok (.int .i64 c.high) w := fun w => partI w _ 8 _ rfl
  simp only [p7, Result.andThen_ok]
  rw [ekI]
  simp only [Result.andThen_ok, Bool.not_true, Bool.false_eq_true, if_false, Sem.run_bind]
  have p8 : ∀ w, (part 9 (replyV c).toArray 9).run Tryz.prog w = .ok (.string ⟨c.results.toArray⟩) w := fun w => partS w _ 9 _ rfl
  simp only [p8, Result.andThen_ok]
  rw [ekS]
  rfl
theorem eqlR (w : World) (c : ReplyP) : (binOp .eql 27 (.agg (replyV c).toArray) (.agg (replyV c).toArray)).run Tryz.prog w = .ok (.bool true) w := by
  rw [run_eql_struct, ekR]; rfl
theorem neqR (w : World) (c : ReplyP) : (binOp .neq 27 (.agg (replyV c).toArray) (.agg (replyV c).toArray)).run Tryz.prog w = .ok (.bool false) w := by
  rw [run_neq_struct, ekR]; rfl
theorem guardRn (w : World) (op : BinOp) (x y : Operand) (xs ys : Array Value) : (eqGuard op 27 x y (.agg xs) (.agg ys)).run Tryz.prog w = .ok () w := run_eqGuard_agg w op 27 x y xs ys guardR
end Go.Proofs.YtebjheaohichpaaGreatDoor
