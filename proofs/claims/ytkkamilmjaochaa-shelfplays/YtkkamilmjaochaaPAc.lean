/- Keys that are structs. -/
import Derived.Test.YtkkamilmjaochaaPAb
namespace Go.Proofs.Ytkkamilmjaochaa
open Go.RowKit
structure KeyP where
  s : ByteArray
  n : Int
deriving DecidableEq
structure TwoP where
  a0 : Int
  a1 : Int
  b : Bool
theorem laidOut : laidOutB Try.prog = true := by kernel_rfl
theorem row32 : (32 : TypeId) < Try.prog.types.size := of_decide_eq_true (by kernel_rfl)
theorem row71 : (71 : TypeId) < Try.prog.types.size := of_decide_eq_true (by kernel_rfl)
theorem kta32 : Try.prog.keyTypeAt 2 32 = true := by kernel_rfl
theorem kta71 : Try.prog.keyTypeAt 3 71 = true := by kernel_rfl
theorem keyed32 : Maps.Keyed Try.prog 32 := Maps.Keyed.of_law (deep_law_laid laidOut (m := 2) (by omega) row32 kta32 (by rw [Try.underlying32]))
theorem keyed71 : Maps.Keyed Try.prog 71 := Maps.Keyed.of_law (deep_law_laid laidOut (m := 3) (by omega) row71 kta71 (by rw [Try.underlying71]))
theorem kt32 : Try.prog.keyType 32 = true := by kernel_rfl
theorem kt71 : Try.prog.keyType 71 = true := by kernel_rfl
theorem cells9 : Try.prog.cellsOf 9 = 1 := by kernel_rfl
theorem cells3 : Try.prog.cellsOf 3 = 1 := by kernel_rfl
theorem cells5 : Try.prog.cellsOf 5 = 1 := by kernel_rfl
theorem cells4 : Try.prog.cellsOf 4 = 1 := by kernel_rfl
theorem cells32 : Try.prog.cellsOf 32 = 2 := by kernel_rfl
theorem cells69 : Try.prog.cellsOf 69 = 2 := by kernel_rfl
theorem cells71 : Try.prog.cellsOf 71 = 3 := by kernel_rfl
theorem form32 (a b : Value) : (Value.agg #[a, b]).formed Try.prog 32 = true := by simp [Value.formed, Try.underlying32, cells32]
theorem form71 (a b c : Value) : (Value.agg #[a, b, c]).formed Try.prog 71 = true := by simp [Value.formed, Try.underlying71, cells71]
theorem typesN : Try.prog.types.size = 210 := by kernel_rfl
theorem lits9 (d : Nat) (s : ByteArray) (h : s.size ≤ maxLen) : Try.prog.keyLits (d + 1) 9 [.string s] = some [.string s.data.toList] := by
  simp only [Program.keyLits, Try.underlying9, if_pos h]
theorem lits3 (d : Nat) (n : Int) (h : (Lit.int .i64 n).wf = true) : Try.prog.keyLits (d + 1) 3 [.int .i64 n] = some [.int .i64 n] := by
  simp only [Program.keyLits, Try.underlying3, h, and_self, if_true]
theorem lits5 (d : Nat) (n : Int) (h : (Lit.int .u8 n).wf = true) : Try.prog.keyLits (d + 1) 5 [.int .u8 n] = some [.int .u8 n] := by
  simp only [Program.keyLits, Try.underlying5, h, and_self, if_true]
theorem lits4 (d : Nat) (b : Bool) : Try.prog.keyLits (d + 1) 4 [.bool b] = some [.bool b] := by
  simp only [Program.keyLits, Try.underlying4]
theorem keyLits_struct {P : Program} {d : Nat} {t : TypeId} {fs : Array Field} {cs : List Value} (h : P.underlying t = some (.struct fs)) (hl : cs.length = P.cellsOf t) (hn : fs.all (fun x => x.name != "_") = true) :
    P.keyLits (d + 1) t cs = (fs.toList.mapM fun f => P.keyLits d f.type ((cs.drop f.offset).take (P.cellsOf f.type))).map List.flatten := by
  simp only [Program.keyLits, h, hl, hn, and_self, if_true]
theorem keyLits_array {P : Program} {d n : Nat} {t e : TypeId} {cs : List Value} (h : P.underlying t = some (.array n e)) (hl : cs.length = P.cellsOf t) :
    P.keyLits (d + 1) t cs = ((List.range n).mapM fun i => P.keyLits d e ((cs.drop (i * P.cellsOf e)).take (P.cellsOf e))).map List.flatten := by
  simp only [Program.keyLits, h, hl, if_true]
theorem lits32 (d : Nat) (s : ByteArray) (n : Int) (hs : s.size ≤ maxLen) (hn : (Lit.int .i64 n).wf = true) : ∃ l, Try.prog.keyLits (d + 2) 32 [.string s, .int .i64 n] = some l := by
  have a := lits9 d s hs
  have b := lits3 d n hn
  rw [keyLits_struct Try.underlying32 (by rw [cells32]; rfl) (by kernel_rfl)]
  simp [cells9, cells3, a, b]
theorem lits69 (d : Nat) (x y : Int) (hx : (Lit.int .u8 x).wf = true) (hy : (Lit.int .u8 y).wf = true) : Try.prog.keyLits (d + 2) 69 [.int .u8 x, .int .u8 y] = some [.int .u8 x, .int .u8 y] := by
  have a := lits5 d x hx
  have b := lits5 d y hy
  rw [keyLits_array Try.underlying69 (by rw [cells69]; rfl)]
  simp [cells5, a, b, List.range_succ]
theorem lits71 (d : Nat) (x y : Int) (z : Bool) (hx : (Lit.int .u8 x).wf = true) (hy : (Lit.int .u8 y).wf = true) : ∃ l, Try.prog.keyLits (d + 3) 71 [.int .u8 x, .int .u8 y, .bool z] = some l := by
  have a := lits69 d x y hx hy
  have b := lits4 (d + 1) z
  rw [keyLits_struct Try.underlying71 (by rw [cells71]; rfl) (by kernel_rfl)]
  simp [cells69, cells4, a, b]
theorem keyOf_struct {P : Program} {k : TypeId} {fs : Array Field} {v : Value} (h : P.underlying k = some (.struct fs)) (h1 : P.keyType k = true) (h2 : v.formed P k = true) {d : Nat} (hd : P.types.size + 1 = d) (h3 : ∃ l, P.keyLits d k v.cells.toList = some l) : ∃ l, keyOf P k v = some l := by
  obtain ⟨l, hl⟩ := h3
  unfold keyOf
  rw [h]
  simp [h1, h2, hd, hl]
theorem key32 (k : KeyP) (h : k.s.size ≤ maxLen ∧ (Lit.int .i64 k.n).wf = true) : ∃ l, keyOf Try.prog 32 (.agg #[.string k.s, .int .i64 k.n]) = some l :=
  keyOf_struct Try.underlying32 kt32 (form32 _ _) (d := 209 + 2) (by rw [typesN]) (lits32 209 k.s k.n h.1 h.2)
theorem key71 (k : TwoP) (h : (Lit.int .u8 k.a0).wf = true ∧ (Lit.int .u8 k.a1).wf = true) : ∃ l, keyOf Try.prog 71 (.agg #[.int .u8 k.a0, .int .u8 k.a1, .bool k.b]) = some l :=
  keyOf_struct Try.underlying71 kt71 (form71 _ _ _) (d := 208 + 3) (by rw [typesN]) (lits71 208 k.a0 k.a1 k.b h.1 h.2)
end Go.Proofs.Ytkkamilmjaochaa
