/- The client in memory. Tags: t the client's block, t + 1 the list of calls that wait, t + 2 that of outcomes, t + 3 the calls, t + 4 what their closures have, t + 5 the meter, t + 6 the groups. ClientOnce: a script of steps. -/
import Derived.Test.YtfcbjcebkahehaaGreatDoorJf
import Derived.Test.YtfcbjcebkahehaaGreatDoorMt
namespace Go.Proofs.YtfcbjcebkahehaaGreatDoor.Cl
open Go.RowKit
/-- a call that waits: its block, its closure's three, what it is -/
structure Wt where
  b : Nat
  bx : Nat
  bc : Nat
  bt : Nat
  seq : Int
  dst : Int
  prog : Int
  vers : Int
  proc : Int
  args : List UInt8
  snd : Int
  due : Int
  fin : Int
  tms : Int
  last : Int
def Wt.call (x : Wt) : CallP := ⟨x.seq, 2, x.prog, x.vers, x.proc, ⟨0, []⟩, ⟨0, []⟩, x.args⟩
abbrev Wt.fn (x : Wt) : Value := .func (.func 93) #[] #[ptr x.bx, ptr x.bc, ptr x.bt]
abbrev Wt.blk (x : Wt) : Obj := .cells #[.int .i64 x.seq, .int .i64 x.dst, x.fn, .int .i64 x.snd, .int .i64 x.due, .int .i64 x.fin, .int .i64 x.tms, .int .i64 x.last] 113
abbrev Wt.bxB (x : Wt) : Obj := .cells #[.int .i64 x.seq, .int .i64 2, .int .i64 x.prog, .int .i64 x.vers, .int .i64 x.proc, .int .i64 0, .string ⟨#[]⟩, .int .i64 0, .string ⟨#[]⟩, .string ⟨x.args.toArray⟩] 108
/-- an outcome -/
structure Oc where
  seq : Int
  st : Int
  acc : Int
  rej : Int
  why : Int
  low : Int
  high : Int
  res : List UInt8
  at_ : Int
def ocC (o : Oc) : List Value := [.int .i64 o.seq, .int .i64 o.st, .int .i64 o.acc, .int .i64 o.rej, .int .i64 o.why, .int .i64 o.low, .int .i64 o.high, .string ⟨o.res.toArray⟩, .int .i64 o.at_]
theorem ocL (o : Oc) : (ocC o).length = 9 := rfl
theorem ocO (o : Oc) : ∀ u ∈ ocC o, u.oneCell' = true := by
  intro u hu
  simp only [ocC, List.mem_cons, List.not_mem_nil, or_false] at hu
  rcases hu with rfl | rfl | rfl | rfl | rfl | rfl | rfl | rfl | rfl <;> rfl
def ptrC (y : Nat) : List Value := [ptr y]
theorem ptrL (y : Nat) : (ptrC y).length = 1 := rfl
theorem ptrO (y : Nat) : ∀ u ∈ ptrC y, u.oneCell' = true := by
  intro u hu
  simp only [ptrC, List.mem_cons, List.not_mem_nil, or_false] at hu
  subst hu; rfl
/-- one call in memory -/
structure WtAt (K : Nat → Nat) (w : World) (t : Nat) (c : Cf) (oa : Option Addr) (cap : Nat) (x : Wt) : Prop where
  me : TB K w (t + 3) x.b x.blk
  bx : TB K w (t + 4) x.bx x.bxB
  bc : TB K w (t + 4) x.bc (cfB c oa cap)
  bt : TB K w (t + 4) x.bt (.cells #[.int .i64 x.dst] 3)
/-- the groups -/
def GsT (K : Nat → Nat) (w : World) (t : Nat) (oa : Option Addr) (gs : List Int) : Prop := 0 < gs.length → ∃ q off, oa = some ⟨q, off, none⟩ ∧ K q = t ∧ q < w.heap.size ∧ ∀ i, i < gs.length → w.cell? ⟨q, off + i, none⟩ = some (.int .i64 (gs.getD i 0))
/-- a meter: its block, what it has -/
structure Mq where
  blk : Nat
  h : Bool
  m : Nat
  s : Nat
instance : Coe Mq Nat := ⟨Mq.blk⟩
/-- what a meter may have -/
structure MOk (h : Bool) (a b : Nat) : Prop where
  ma : a ≤ 1233125376
  mb : b ≤ 1233125376
  z : h = false → a = 0 ∧ b = 0
abbrev Mq.obj (q : Mq) : Obj := .cells #[.bool q.h, .float .f32 q.m, .float .f32 q.s] 136
structure MB (K : Nat → Nat) (w : World) (t : Nat) (q : Mq) : Prop where
  tb : TB K w t q.blk q.obj
  ok : MOk q.h q.m q.s
structure PC (K : Nat → Nat) (w : World) (B t p : Nat) (c : Cf) (oa : Option Addr) (cap : Nat) (next now : Int) (L : List Wt) (D : List Oc) (vw vd : Value) (q : Mq) : Prop where
  cl : TB K w t p (clB c oa cap next now vw vd q)
  wr : RW 109 1 ptrC K w B (t + 1) vw (L.map Wt.b)
  dn : RW 80 9 ocC K w B (t + 2) vd D
  cs : ∀ x ∈ L, WtAt K w t c oa cap x
  nd : (L.map Wt.b).Nodup
  me : MB K w (t + 5) q
  gs : GsT K w (t + 6) oa c.sys.groups
  gl : c.sys.groups.length ≤ cap
  ok : okC c = true
  hB : B ≤ w.heap.size
  err : ErrT w
  h0 : ∀ b, b < B → K b < t
  b1 : 1 < B
theorem MB.mv {T : Nat → Prop} {K K' : Nat → Nat} {w w' : World} {t : Nat} {q : Mq} (h : MB K w t q) (m : Mv T w w' K K') (ht : ¬ T t) : MB K' w' t q := ⟨h.tb.mv m ht, h.ok⟩
section
variable {K K' : Nat → Nat} {w w' : World} {B t p : Nat} {c : Cf} {oa : Option Addr} {cap : Nat} {next now : Int} {L : List Wt} {D : List Oc} {vw vd : Value} {q : Mq}
theorem WtAt.mv {T : Nat → Prop} {x : Wt} (h : WtAt K w t c oa cap x) (m : Mv T w w' K K') (h3 : ¬ T (t + 3)) (h4 : ¬ T (t + 4)) : WtAt K' w' t c oa cap x := ⟨h.me.mv m h3, h.bx.mv m h4, h.bc.mv m h4, h.bt.mv m h4⟩
theorem GsT.mv {T : Nat → Prop} {gs : List Int} (h : GsT K w t oa gs) (m : Mv T w w' K K') (ht : ¬ T t) : GsT K' w' t oa gs := fun h0 => by
  obtain ⟨q, off, e1, e2, e3, e4⟩ := h h0
  exact ⟨q, off, e1, (m.old q e3).trans e2, Nat.lt_of_lt_of_le e3 m.size, fun i hi => (World.cell?_of_block (a := ⟨q, off + i, none⟩) (m.kept q e3 (by rw [e2]; exact ht))).trans (e4 i hi)⟩
theorem GsT.at_ {gs : List Int} (h : GsT K w t oa gs) : GsAt w w.heap.size oa gs := fun h0 => by
  obtain ⟨q, off, e1, e2, e3, e4⟩ := h h0
  exact ⟨q, off, e1, e3, e4⟩
theorem PC.ce (h : PC K w B t p c oa cap next now L D vw vd q) {k : Nat} {v : Value} (hk : (#[.int .i64 c.ad, .int .i64 c.inst, .int .i64 c.first, .int .i64 c.win, .int .i64 c.pb, .int .i64 c.pc, .int .i64 c.pt, .int .i64 c.sys.stamp, .string ⟨c.sys.machine.toArray⟩, .int .i64 c.sys.user, .int .i64 c.sys.group, .slice oa c.sys.groups.length cap, .int .i64 next, .int .i64 now, vw, vd, ptr q] : Array Value)[k]? = some v) : w.cell? ⟨p, k, none⟩ = some v := cell_at h.cl.at_ hk
theorem PC.fz (h : PC K w B t p c oa cap next now L D vw vd q) (k : Nat) : w.frozen? ⟨p, k, none⟩ = false := frozen_at h.cl.at_ k
theorem PC.now_any (h : PC K w B t p c oa cap next now L D vw vd q) : Calls Tryz.prog 24 #[ptr p] w fun e w' => e = .returned (.int .i64 now) ∧ w' = w := by
  have c13 := h.ce (k := 13) rfl
  clear h
  go_enter Tryz.func24, Tryz.ntmps24
  go_wp2
  go_ret
  exact ⟨rfl, rfl⟩
/-- the water -/
def waterL (next : Int) : List Wt → Int
  | [] => next
  | x :: _ => x.seq
theorem PC.water_any (h : PC K w B t p c oa cap next now L D vw vd q) : Calls Tryz.prog 23 #[ptr p] w fun e w' => e = .returned (.int .i64 (waterL next L)) ∧ w' = w := by
  have c14 := h.ce (k := 14) rfl
  obtain ⟨o, cp, e, _, hg⟩ := h.wr.form
  rw [List.length_map] at e hg
  subst e
  cases L with
  | nil =>
    have c12 := h.ce (k := 12) rfl
    clear h hg
    go_enter Tryz.func23, Tryz.ntmps23
    go_wp2
    go_ret
    exact ⟨rfl, rfl⟩
  | cons x L =>
    obtain ⟨g, rfl⟩ := hg (by simp)
    have hx := h.wr.cell ptrL (by rw [List.length_map]) (j := 0) (x := x.b) rfl 0 (by omega)
    have c0 : w.cell? ⟨g, 0, none⟩ = some (ptr x.b) := by simpa [ptrC] using hx
    have s0 : w.cell? ⟨x.b, 0, none⟩ = some (.int .i64 x.seq) := cell_at (h.cs x (by simp)).me.at_ rfl
    obtain ⟨n, hn⟩ : ∃ n, (x :: L).length = n := ⟨_, rfl⟩
    have hn0 : (0 : Int) < (n : Int) := by rw [← hn]; simp
    rw [hn] at c14
    show Calls _ _ _ _ fun e w' => e = .returned (.int .i64 x.seq) ∧ w' = w
    clear h hg hx hn
    go_enter Tryz.func23, Tryz.ntmps23
    go_wp2
    go_ret
    exact ⟨rfl, rfl⟩
end
end Go.Proofs.YtfcbjcebkahehaaGreatDoor.Cl
namespace Go.Proofs.YtfcbjcebkahehaaGreatDoor.Cl
open Go.RowKit
/-- a script of steps -/
structure ActsAt (w : World) (o : Option Addr) (n : Nat) (A : Nat → Int × Int × ByteArray) : Prop where
  at_ : 0 < n → ∃ g off, o = some ⟨g, off, none⟩ ∧ g < w.heap.size ∧ ∀ j, j < n → w.cell? ⟨g, off + j * 3, none⟩ = some (.int .i64 (A j).1) ∧ w.cell? ⟨g, off + j * 3 + 1, none⟩ = some (.int .i64 (A j).2.1) ∧ w.cell? ⟨g, off + j * 3 + 2, none⟩ = some (.string (A j).2.2)
  ok : ∀ j, j < n → (-9223372036854775808 ≤ (A j).2.1 ∧ (A j).2.1 ≤ 9223372036854775807) ∧ (A j).2.2.size ≤ 281474976710656
theorem ActsAt.below {w w' : World} {o : Option Addr} {n : Nat} {A : Nat → Int × Int × ByteArray} (h : ActsAt w o n A) (hb : Below w.heap.size w w') : ActsAt w' o n A := ⟨fun h0 => by
  obtain ⟨g, off, e1, e2, e3⟩ := h.at_ h0
  refine ⟨g, off, e1, Nat.lt_of_lt_of_le e2 hb.size, fun j hj => ?_⟩
  obtain ⟨a, b, c⟩ := e3 j hj
  exact ⟨(World.cell?_of_block (a := ⟨g, off + j * 3, none⟩) (hb.block g e2)).trans a, (World.cell?_of_block (a := ⟨g, off + j * 3 + 1, none⟩) (hb.block g e2)).trans b, (World.cell?_of_block (a := ⟨g, off + j * 3 + 2, none⟩) (hb.block g e2)).trans c⟩, h.ok⟩
end Go.Proofs.YtfcbjcebkahehaaGreatDoor.Cl
