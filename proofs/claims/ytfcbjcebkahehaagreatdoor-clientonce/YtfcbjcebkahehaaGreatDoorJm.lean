/- The client: Call. -/
import Derived.Test.YtfcbjcebkahehaaGreatDoorZbl
import Derived.Deep.RegionWith
import Derived.Deep.RegionHeldLaw
import Derived.Test.YtfcbjcebkahehaaGreatDoorLq
namespace Go.Proofs.YtfcbjcebkahehaaGreatDoor.Cl
open Go.RowKit
abbrev zB : Obj := .cells #[.int .i64 0, .int .i64 0, .int .i64 0, .int .i64 0, .int .i64 0, .int .i64 0, .string ⟨#[]⟩, .int .i64 0, .string ⟨#[]⟩, .string ⟨#[]⟩] 108
/-- ten cells stored into a new block -/
theorem st10 {w1 wz : World} {S B : Nat} (k : wz.heap[S]? = some zB) (hb : Below B w1 wz) (hS : B ≤ S) (a0 a1 a2 a3 a4 a5 a6 a7 a8 a9 : Value) :
    ((((((((((wz.setCell ⟨S, 0, none⟩ a0).setCell ⟨S, 1, none⟩ a1).setCell ⟨S, 2, none⟩ a2).setCell ⟨S, 3, none⟩ a3).setCell ⟨S, 4, none⟩ a4).setCell ⟨S, 5, none⟩ a5).setCell ⟨S, 6, none⟩ a6).setCell ⟨S, 7, none⟩ a7).setCell ⟨S, 8, none⟩ a8).setCell ⟨S, 9, none⟩ a9).heap[S]? = some (.cells #[a0, a1, a2, a3, a4, a5, a6, a7, a8, a9] 108) ∧ B ≤ S ∧ Below B w1 ((((((((((wz.setCell ⟨S, 0, none⟩ a0).setCell ⟨S, 1, none⟩ a1).setCell ⟨S, 2, none⟩ a2).setCell ⟨S, 3, none⟩ a3).setCell ⟨S, 4, none⟩ a4).setCell ⟨S, 5, none⟩ a5).setCell ⟨S, 6, none⟩ a6).setCell ⟨S, 7, none⟩ a7).setCell ⟨S, 8, none⟩ a8).setCell ⟨S, 9, none⟩ a9) := by
  obtain ⟨u1, hu1⟩ : ∃ y, wz.setCell ⟨S, 0, none⟩ a0 = y := ⟨_, rfl⟩
  rw [hu1]
  have ku1 : u1.heap[S]? = some (.cells #[a0, .int .i64 0, .int .i64 0, .int .i64 0, .int .i64 0, .int .i64 0, .string ⟨#[]⟩, .int .i64 0, .string ⟨#[]⟩, .string ⟨#[]⟩] 108) := by rw [← hu1]; exact set_at k 0 _
  have bu1 : Below B w1 u1 := by rw [← hu1]; exact below_set hb hS
  obtain ⟨u2, hu2⟩ : ∃ y, u1.setCell ⟨S, 1, none⟩ a1 = y := ⟨_, rfl⟩
  rw [hu2]
  have ku2 : u2.heap[S]? = some (.cells #[a0, a1, .int .i64 0, .int .i64 0, .int .i64 0, .int .i64 0, .string ⟨#[]⟩, .int .i64 0, .string ⟨#[]⟩, .string ⟨#[]⟩] 108) := by rw [← hu2]; exact set_at ku1 1 _
  have bu2 : Below B w1 u2 := by rw [← hu2]; exact below_set bu1 hS
  obtain ⟨u3, hu3⟩ : ∃ y, u2.setCell ⟨S, 2, none⟩ a2 = y := ⟨_, rfl⟩
  rw [hu3]
  have ku3 : u3.heap[S]? = some (.cells #[a0, a1, a2, .int .i64 0, .int .i64 0, .int .i64 0, .string ⟨#[]⟩, .int .i64 0, .string ⟨#[]⟩, .string ⟨#[]⟩] 108) := by rw [← hu3]; exact set_at ku2 2 _
  have bu3 : Below B w1 u3 := by rw [← hu3]; exact below_set bu2 hS
  obtain ⟨u4, hu4⟩ : ∃ y, u3.setCell ⟨S, 3, none⟩ a3 = y := ⟨_, rfl⟩
  rw [hu4]
  have ku4 : u4.heap[S]? = some (.cells #[a0, a1, a2, a3, .int .i64 0, .int .i64 0, .string ⟨#[]⟩, .int .i64 0, .string ⟨#[]⟩, .string ⟨#[]⟩] 108) := by rw [← hu4]; exact set_at ku3 3 _
  have bu4 : Below B w1 u4 := by rw [← hu4]; exact below_set bu3 hS
  obtain ⟨u5, hu5⟩ : ∃ y, u4.setCell ⟨S, 4, none⟩ a4 = y := ⟨_, rfl⟩
  rw [hu5]
  have ku5 : u5.heap[S]? = some (.cells #[a0, a1, a2, a3, a4, .int .i64 0, .string ⟨#[]⟩, .int .i64 0, .string ⟨#[]⟩, .string ⟨#[]⟩] 108) := by rw [← hu5]; exact set_at ku4 4 _
  have bu5 : Below B w1 u5 := by rw [← hu5]; exact below_set bu4 hS
  obtain ⟨u6, hu6⟩ : ∃ y, u5.setCell ⟨S, 5, none⟩ a5 = y := ⟨_, rfl⟩
  rw [hu6]
  have ku6 : u6.heap[S]? = some (.cells #[a0, a1, a2, a3, a4, a5, .string ⟨#[]⟩, .int .i64 0, .string ⟨#[]⟩, .string ⟨#[]⟩] 108) := by rw [← hu6]; exact set_at ku5 5 _
  have bu6 : Below B w1 u6 := by rw [← hu6]; exact below_set bu5 hS
  obtain ⟨u7, hu7⟩ : ∃ y, u6.setCell ⟨S, 6, none⟩ a6 = y := ⟨_, rfl⟩
  rw [hu7]
  have ku7 : u7.heap[S]? = some (.cells #[a0, a1, a2, a3, a4, a5, a6, .int .i64 0, .string ⟨#[]⟩, .string ⟨#[]⟩] 108) := by rw [← hu7]; exact set_at ku6 6 _
  have bu7 : Below B w1 u7 := by rw [← hu7]; exact below_set bu6 hS
  obtain ⟨u8, hu8⟩ : ∃ y, u7.setCell ⟨S, 7, none⟩ a7 = y := ⟨_, rfl⟩
  rw [hu8]
  have ku8 : u8.heap[S]? = some (.cells #[a0, a1, a2, a3, a4, a5, a6, a7, .string ⟨#[]⟩, .string ⟨#[]⟩] 108) := by rw [← hu8]; exact set_at ku7 7 _
  have bu8 : Below B w1 u8 := by rw [← hu8]; exact below_set bu7 hS
  obtain ⟨u9, hu9⟩ : ∃ y, u8.setCell ⟨S, 8, none⟩ a8 = y := ⟨_, rfl⟩
  rw [hu9]
  have ku9 : u9.heap[S]? = some (.cells #[a0, a1, a2, a3, a4, a5, a6, a7, a8, .string ⟨#[]⟩] 108) := by rw [← hu9]; exact set_at ku8 8 _
  have bu9 : Below B w1 u9 := by rw [← hu9]; exact below_set bu8 hS
  obtain ⟨u10, hu10⟩ : ∃ y, u9.setCell ⟨S, 9, none⟩ a9 = y := ⟨_, rfl⟩
  rw [hu10]
  have ku10 : u10.heap[S]? = some (.cells #[a0, a1, a2, a3, a4, a5, a6, a7, a8, a9] 108) := by rw [← hu10]; exact set_at ku9 9 _
  have bu10 : Below B w1 u10 := by rw [← hu10]; exact below_set bu9 hS
  exact ⟨ku10, hS, bu10⟩
theorem bld108 (next prog vers proc : Int) (s : ByteArray) (w : World) : (Instr.build 108 #[(0, .int .i64 next), (1, .int .i64 2), (2, .int .i64 prog), (3, .int .i64 vers), (4, .int .i64 proc), (7, .string s)]).run Tryz.prog w = .ok (.agg #[.int .i64 next, .int .i64 2, .int .i64 prog, .int .i64 vers, .int .i64 proc, .int .i64 0, .string ⟨#[]⟩, .int .i64 0, .string ⟨#[]⟩, .string s]) w := by kernel_rfl
theorem bld113 (seq dst due fin : Int) (a b d : Nat) (w : World) : (Instr.build 113 #[(0, .int .i64 seq), (1, .int .i64 dst), (2, .func (.func 93) #[] #[ptr a, ptr b, ptr d]), (4, .int .i64 due), (5, .int .i64 fin)]).run Tryz.prog w = .ok (.agg #[.int .i64 seq, .int .i64 dst, .func (.func 93) #[] #[ptr a, ptr b, ptr d], .int .i64 0, .int .i64 due, .int .i64 fin, .int .i64 0, .int .i64 0]) w := by kernel_rfl
theorem bls94 (y : Nat) (w : World) : (Instr.buildSlice 94 1 #[(0, ptr y)]).run Tryz.prog w = .ok (.slice (some ⟨w.heap.size, 0, none⟩) 1 1) (w.alloc (.cells #[ptr y] 109)) := by kernel_rfl
def Wt.isNew (x : Wt) (dst prog vers proc : Int) (args : List UInt8) (now fin seq : Int) : Prop := x.dst = dst ∧ x.prog = prog ∧ x.vers = vers ∧ x.proc = proc ∧ x.args = args ∧ x.snd = 0 ∧ x.due = now ∧ x.fin = fin ∧ x.tms = 0 ∧ x.last = 0 ∧ x.seq = seq
section
variable {K K' : Nat → Nat} {w w' : World} {B t p : Nat} {c : Cf} {oa : Option Addr} {cap : Nat} {next now : Int} {L : List Wt} {D : List Oc} {vw vd : Value} {q : Mq}
set_option maxRecDepth 8000 in
set_option maxHeartbeats 8000000 in
theorem PC.call_any (h : PC K w B t p c oa cap next now L D vw vd q) (dst prog vers proc : Int) (args : List UInt8) (hx : -1000000000000 ≤ next ∧ next ≤ 1000000000000) (hy : -1000000000000 ≤ waterL next L ∧ waterL next L ≤ 1000000000000) (hr : refP c.win next (waterL next L) dst prog vers proc args.length = 0) (hs : args.length ≤ 281474976710656) (hL : L.length ≤ 100000000) :
    Calls Tryz.prog 19 #[ptr p, .int .i64 dst, .int .i64 prog, .int .i64 vers, .int .i64 proc, .string ⟨args.toArray⟩] w fun e w' => e = .returned (.tuple #[.int .i64 next, .int .i64 0]) ∧ ∃ K' x vw' vd', PC K' w' B t p c oa cap (next + 1) now (L ++ [x]) D vw' vd' q ∧ (∃ fin, IntKind.i64.wrap (now + Pc.totalP c.pb c.pc c.pt) = fin ∧ x.isNew dst prog vers proc args now fin next) ∧ Mv (fun u => u = t ∨ u = t + 1) w w' K K' := by
  obtain ⟨s, hs0⟩ : ∃ s : ByteArray, (⟨args.toArray⟩ : ByteArray) = s := ⟨_, rfl⟩
  have hsz : s.size = args.length := by rw [← hs0]; simp [ByteArray.size]
  rw [← hsz] at hr hs
  rw [hs0]
  have HNX : Hid (wrap64 (next + 1) = next + 1) := by show _ = _; unfold wrap64; omega
  have HR := hid (h.refuse_any dst prog vers proc s hx hy)
  rw [hr] at HR
  have HCl : Hid (∀ w', Calls Tryz.prog 45 #[.string s] w' fun e w'' => e = .returned (.string s) ∧ Below w'.heap.size w' w'') := fun w' => clone_any s w' hs
  have HP := hid h
  have HLn := hid hL
  clear h hx hy hr hs hL hsz
  go_enter Tryz.func19, Tryz.ntmps19
  go_wp2_with fail
  refine HR.out.mono ?_
  rintro _ w1 ⟨rfl, k, hw1⟩
  have HP1 : Hid (PC K w1 B t p c oa cap next now L D vw vd q) := by
    rw [hw1]
    exact HP.out.to (mv_drewN w K k) (fun _ e => e.elim)
  have c12 : w1.cell? ⟨p, 12, none⟩ = some (.int .i64 next) := HP1.out.ce rfl
  have hlp : p < w1.heap.size := HP1.out.cl.lt
  have HW1 : Hid (Mv (fun u => u = t ∨ u = t + 1) w w1 K K) := by rw [hw1]; exact (mv_drewN w K k).mono (fun _ e => e.elim)
  clear HR HP hw1
  go_wp2_with fail
  go_cut [15] (fun u15 wx => ∃ A, u15 = ptr A ∧ Hid (wx.heap[A]? = some (.cells #[.int .i64 next, .int .i64 2, .int .i64 prog, .int .i64 vers, .int .i64 proc, .int .i64 0, .string ⟨#[]⟩, .int .i64 0, .string ⟨#[]⟩, .string s] 108) ∧ w1.heap.size ≤ A ∧ Below w1.heap.size w1 wx))
  case first =>
    have hb := fun w => bld108 next prog vers proc s w
    have c12b : (w1.alloc zB).cell? ⟨p, 12, none⟩ = some (.int .i64 next) := (World.cell?_of_block (a := ⟨p, 12, none⟩) (Below.heap_alloc w1 zB p hlp)).trans c12
    go_region_with (first
      | (go_at_call 45
         refine (HCl.out _).mono ?_
         rintro _ w2 ⟨rfl, hb2⟩
         have c12w : w2.cell? ⟨p, 12, none⟩ = some (.int .i64 next) := by
           first
             | exact (World.cell?_of_block (a := ⟨p, 12, none⟩) (hb2.block p hlp)).trans c12
             | exact (World.cell?_of_block (a := ⟨p, 12, none⟩) (hb2.block p (by simp; omega))).trans c12b
         have bw2 : Below w1.heap.size w1 w2 := by
           first
             | exact ⟨hb2.os, hb2.tape, hb2.output, hb2.size, hb2.block⟩
             | exact ((Below.refl w1.heap.size w1).alloc (Nat.le_refl _) zB).trans (Below.mono ⟨hb2.os, hb2.tape, hb2.output, hb2.size, hb2.block⟩ (by simp))
         obtain ⟨SA, hSA⟩ : ∃ y, w2.heap.size = y := ⟨_, rfl⟩
         obtain ⟨wz, hwz⟩ : ∃ y, w2.alloc zB = y := ⟨_, rfl⟩
         have kz : wz.heap[SA]? = some zB := by rw [← hwz, ← hSA]; exact (MapKept.heap_alloc w2 _).1
         have hleA : w1.heap.size ≤ SA := by rw [← hSA]; exact bw2.size
         have bwz : Below w1.heap.size w1 wz := by rw [← hwz]; exact bw2.alloc bw2.size _
         have c12z : wz.cell? ⟨p, 12, none⟩ = some (.int .i64 next) := by rw [← hwz]; exact (World.cell?_of_block (a := ⟨p, 12, none⟩) (Below.heap_alloc w2 zB p (World.block_lt_of_cell? _ _ c12w))).trans c12w
         obtain ⟨x1, hx1⟩ : ∃ y, wz.setCell ⟨SA, 0, none⟩ (.int .i64 next) = y := ⟨_, rfl⟩
         have zx1 : wz.cell? ⟨SA, 0, none⟩ = some (.int .i64 0) := cell_at kz rfl
         have fx1 : wz.frozen? ⟨SA, 0, none⟩ = false := frozen_at kz 0
         have kx1 : x1.heap[SA]? = some (.cells #[.int .i64 next, .int .i64 0, .int .i64 0, .int .i64 0, .int .i64 0, .int .i64 0, .string ⟨#[]⟩, .int .i64 0, .string ⟨#[]⟩, .string ⟨#[]⟩] 108) := by rw [← hx1]; exact set_at kz 0 _
         have bx1 : Below w1.heap.size w1 x1 := by rw [← hx1]; exact below_set bwz hleA
         obtain ⟨x2, hx2⟩ : ∃ y, x1.setCell ⟨SA, 1, none⟩ (.int .i64 2) = y := ⟨_, rfl⟩
         have zx2 : x1.cell? ⟨SA, 1, none⟩ = some (.int .i64 0) := cell_at kx1 rfl
         have fx2 : x1.frozen? ⟨SA, 1, none⟩ = false := frozen_at kx1 1
         have kx2 : x2.heap[SA]? = some (.cells #[.int .i64 next, .int .i64 2, .int .i64 0, .int .i64 0, .int .i64 0, .int .i64 0, .string ⟨#[]⟩, .int .i64 0, .string ⟨#[]⟩, .string ⟨#[]⟩] 108) := by rw [← hx2]; exact set_at kx1 1 _
         have bx2 : Below w1.heap.size w1 x2 := by rw [← hx2]; exact below_set bx1 hleA
         obtain ⟨x3, hx3⟩ : ∃ y, x2.setCell ⟨SA, 2, none⟩ (.int .i64 prog) = y := ⟨_, rfl⟩
         have zx3 : x2.cell? ⟨SA, 2, none⟩ = some (.int .i64 0) := cell_at kx2 rfl
         have fx3 : x2.frozen? ⟨SA, 2, none⟩ = false := frozen_at kx2 2
         have kx3 : x3.heap[SA]? = some (.cells #[.int .i64 next, .int .i64 2, .int .i64 prog, .int .i64 0, .int .i64 0, .int .i64 0, .string ⟨#[]⟩, .int .i64 0, .string ⟨#[]⟩, .string ⟨#[]⟩] 108) := by rw [← hx3]; exact set_at kx2 2 _
         have bx3 : Below w1.heap.size w1 x3 := by rw [← hx3]; exact below_set bx2 hleA
         obtain ⟨x4, hx4⟩ : ∃ y, x3.setCell ⟨SA, 3, none⟩ (.int .i64 vers) = y := ⟨_, rfl⟩
         have zx4 : x3.cell? ⟨SA, 3, none⟩ = some (.int .i64 0) := cell_at kx3 rfl
         have fx4 : x3.frozen? ⟨SA, 3, none⟩ = false := frozen_at kx3 3
         have kx4 : x4.heap[SA]? = some (.cells #[.int .i64 next, .int .i64 2, .int .i64 prog, .int .i64 vers, .int .i64 0, .int .i64 0, .string ⟨#[]⟩, .int .i64 0, .string ⟨#[]⟩, .string ⟨#[]⟩] 108) := by rw [← hx4]; exact set_at kx3 3 _
         have bx4 : Below w1.heap.size w1 x4 := by rw [← hx4]; exact below_set bx3 hleA
         obtain ⟨x5, hx5⟩ : ∃ y, x4.setCell ⟨SA, 4, none⟩ (.int .i64 proc) = y := ⟨_, rfl⟩
         have zx5 : x4.cell? ⟨SA, 4, none⟩ = some (.int .i64 0) := cell_at kx4 rfl
         have fx5 : x4.frozen? ⟨SA, 4, none⟩ = false := frozen_at kx4 4
         have kx5 : x5.heap[SA]? = some (.cells #[.int .i64 next, .int .i64 2, .int .i64 prog, .int .i64 vers, .int .i64 proc, .int .i64 0, .string ⟨#[]⟩, .int .i64 0, .string ⟨#[]⟩, .string ⟨#[]⟩] 108) := by rw [← hx5]; exact set_at kx4 4 _
         have bx5 : Below w1.heap.size w1 x5 := by rw [← hx5]; exact below_set bx4 hleA
         obtain ⟨x6, hx6⟩ : ∃ y, x5.setCell ⟨SA, 5, none⟩ (.int .i64 0) = y := ⟨_, rfl⟩
         have zx6 : x5.cell? ⟨SA, 5, none⟩ = some (.int .i64 0) := cell_at kx5 rfl
         have fx6 : x5.frozen? ⟨SA, 5, none⟩ = false := frozen_at kx5 5
         have kx6 : x6.heap[SA]? = some (.cells #[.int .i64 next, .int .i64 2, .int .i64 prog, .int .i64 vers, .int .i64 proc, .int .i64 0, .string ⟨#[]⟩, .int .i64 0, .string ⟨#[]⟩, .string ⟨#[]⟩] 108) := by rw [← hx6]; exact set_at kx5 5 _
         have bx6 : Below w1.heap.size w1 x6 := by rw [← hx6]; exact below_set bx5 hleA
         obtain ⟨x7, hx7⟩ : ∃ y, x6.setCell ⟨SA, 6, none⟩ (.string ⟨#[]⟩) = y := ⟨_, rfl⟩
         have zx7 : x6.cell? ⟨SA, 6, none⟩ = some (.string ⟨#[]⟩) := cell_at kx6 rfl
         have fx7 : x6.frozen? ⟨SA, 6, none⟩ = false := frozen_at kx6 6
         have kx7 : x7.heap[SA]? = some (.cells #[.int .i64 next, .int .i64 2, .int .i64 prog, .int .i64 vers, .int .i64 proc, .int .i64 0, .string ⟨#[]⟩, .int .i64 0, .string ⟨#[]⟩, .string ⟨#[]⟩] 108) := by rw [← hx7]; exact set_at kx6 6 _
         have bx7 : Below w1.heap.size w1 x7 := by rw [← hx7]; exact below_set bx6 hleA
         obtain ⟨x8, hx8⟩ : ∃ y, x7.setCell ⟨SA, 7, none⟩ (.int .i64 0) = y := ⟨_, rfl⟩
         have zx8 : x7.cell? ⟨SA, 7, none⟩ = some (.int .i64 0) := cell_at kx7 rfl
         have fx8 : x7.frozen? ⟨SA, 7, none⟩ = false := frozen_at kx7 7
         have kx8 : x8.heap[SA]? = some (.cells #[.int .i64 next, .int .i64 2, .int .i64 prog, .int .i64 vers, .int .i64 proc, .int .i64 0, .string ⟨#[]⟩, .int .i64 0, .string ⟨#[]⟩, .string ⟨#[]⟩] 108) := by rw [← hx8]; exact set_at kx7 7 _
         have bx8 : Below w1.heap.size w1 x8 := by rw [← hx8]; exact below_set bx7 hleA
         obtain ⟨x9, hx9⟩ : ∃ y, x8.setCell ⟨SA, 8, none⟩ (.string ⟨#[]⟩) = y := ⟨_, rfl⟩
         have zx9 : x8.cell? ⟨SA, 8, none⟩ = some (.string ⟨#[]⟩) := cell_at kx8 rfl
         have fx9 : x8.frozen? ⟨SA, 8, none⟩ = false := frozen_at kx8 8
         have kx9 : x9.heap[SA]? = some (.cells #[.int .i64 next, .int .i64 2, .int .i64 prog, .int .i64 vers, .int .i64 proc, .int .i64 0, .string ⟨#[]⟩, .int .i64 0, .string ⟨#[]⟩, .string ⟨#[]⟩] 108) := by rw [← hx9]; exact set_at kx8 8 _
         have bx9 : Below w1.heap.size w1 x9 := by rw [← hx9]; exact below_set bx8 hleA
         obtain ⟨x10, hx10⟩ : ∃ y, x9.setCell ⟨SA, 9, none⟩ (.string s) = y := ⟨_, rfl⟩
         have zx10 : x9.cell? ⟨SA, 9, none⟩ = some (.string ⟨#[]⟩) := cell_at kx9 rfl
         have fx10 : x9.frozen? ⟨SA, 9, none⟩ = false := frozen_at kx9 9
         have kx10 : x10.heap[SA]? = some (.cells #[.int .i64 next, .int .i64 2, .int .i64 prog, .int .i64 vers, .int .i64 proc, .int .i64 0, .string ⟨#[]⟩, .int .i64 0, .string ⟨#[]⟩, .string s] 108) := by rw [← hx10]; exact set_at kx9 9 _
         have bx10 : Below w1.heap.size w1 x10 := by rw [← hx10]; exact below_set bx9 hleA
         have HA := hid (And.intro kx10 (And.intro hleA bx10))
         clear kx1 bx1 kx2 bx2 kx3 bx3 kx4 bx4 kx5 bx5 kx6 bx6 kx7 bx7 kx8 bx8 kx9 bx9 kx10 bx10 kz bwz hleA
         try (
           have kb0 : w2.heap[w1.heap.size]? = some zB := (hb2.block w1.heap.size (by simp)).trans (MapKept.heap_alloc w1 zB).1
           obtain ⟨SB, hSB⟩ : ∃ y, w1.heap.size = y := ⟨_, rfl⟩
           rw [hSB] at kb0
           have hleB : w1.heap.size ≤ SB := Nat.le_of_eq hSB
           obtain ⟨y1, hy1⟩ : ∃ y, w2.setCell ⟨SB, 0, none⟩ (.int .i64 next) = y := ⟨_, rfl⟩
           have zy1 : w2.cell? ⟨SB, 0, none⟩ = some (.int .i64 0) := cell_at kb0 rfl
           have fy1 : w2.frozen? ⟨SB, 0, none⟩ = false := frozen_at kb0 0
           have ky1 : y1.heap[SB]? = some (.cells #[.int .i64 next, .int .i64 0, .int .i64 0, .int .i64 0, .int .i64 0, .int .i64 0, .string ⟨#[]⟩, .int .i64 0, .string ⟨#[]⟩, .string ⟨#[]⟩] 108) := by rw [← hy1]; exact set_at kb0 0 _
           have by1 : Below w1.heap.size w1 y1 := by rw [← hy1]; exact below_set bw2 hleB
           obtain ⟨y2, hy2⟩ : ∃ y, y1.setCell ⟨SB, 1, none⟩ (.int .i64 2) = y := ⟨_, rfl⟩
           have zy2 : y1.cell? ⟨SB, 1, none⟩ = some (.int .i64 0) := cell_at ky1 rfl
           have fy2 : y1.frozen? ⟨SB, 1, none⟩ = false := frozen_at ky1 1
           have ky2 : y2.heap[SB]? = some (.cells #[.int .i64 next, .int .i64 2, .int .i64 0, .int .i64 0, .int .i64 0, .int .i64 0, .string ⟨#[]⟩, .int .i64 0, .string ⟨#[]⟩, .string ⟨#[]⟩] 108) := by rw [← hy2]; exact set_at ky1 1 _
           have by2 : Below w1.heap.size w1 y2 := by rw [← hy2]; exact below_set by1 hleB
           obtain ⟨y3, hy3⟩ : ∃ y, y2.setCell ⟨SB, 2, none⟩ (.int .i64 prog) = y := ⟨_, rfl⟩
           have zy3 : y2.cell? ⟨SB, 2, none⟩ = some (.int .i64 0) := cell_at ky2 rfl
           have fy3 : y2.frozen? ⟨SB, 2, none⟩ = false := frozen_at ky2 2
           have ky3 : y3.heap[SB]? = some (.cells #[.int .i64 next, .int .i64 2, .int .i64 prog, .int .i64 0, .int .i64 0, .int .i64 0, .string ⟨#[]⟩, .int .i64 0, .string ⟨#[]⟩, .string ⟨#[]⟩] 108) := by rw [← hy3]; exact set_at ky2 2 _
           have by3 : Below w1.heap.size w1 y3 := by rw [← hy3]; exact below_set by2 hleB
           obtain ⟨y4, hy4⟩ : ∃ y, y3.setCell ⟨SB, 3, none⟩ (.int .i64 vers) = y := ⟨_, rfl⟩
           have zy4 : y3.cell? ⟨SB, 3, none⟩ = some (.int .i64 0) := cell_at ky3 rfl
           have fy4 : y3.frozen? ⟨SB, 3, none⟩ = false := frozen_at ky3 3
           have ky4 : y4.heap[SB]? = some (.cells #[.int .i64 next, .int .i64 2, .int .i64 prog, .int .i64 vers, .int .i64 0, .int .i64 0, .string ⟨#[]⟩, .int .i64 0, .string ⟨#[]⟩, .string ⟨#[]⟩] 108) := by rw [← hy4]; exact set_at ky3 3 _
           have by4 : Below w1.heap.size w1 y4 := by rw [← hy4]; exact below_set by3 hleB
           obtain ⟨y5, hy5⟩ : ∃ y, y4.setCell ⟨SB, 4, none⟩ (.int .i64 proc) = y := ⟨_, rfl⟩
           have zy5 : y4.cell? ⟨SB, 4, none⟩ = some (.int .i64 0) := cell_at ky4 rfl
           have fy5 : y4.frozen? ⟨SB, 4, none⟩ = false := frozen_at ky4 4
           have ky5 : y5.heap[SB]? = some (.cells #[.int .i64 next, .int .i64 2, .int .i64 prog, .int .i64 vers, .int .i64 proc, .int .i64 0, .string ⟨#[]⟩, .int .i64 0, .string ⟨#[]⟩, .string ⟨#[]⟩] 108) := by rw [← hy5]; exact set_at ky4 4 _
           have by5 : Below w1.heap.size w1 y5 := by rw [← hy5]; exact below_set by4 hleB
           obtain ⟨y6, hy6⟩ : ∃ y, y5.setCell ⟨SB, 5, none⟩ (.int .i64 0) = y := ⟨_, rfl⟩
           have zy6 : y5.cell? ⟨SB, 5, none⟩ = some (.int .i64 0) := cell_at ky5 rfl
           have fy6 : y5.frozen? ⟨SB, 5, none⟩ = false := frozen_at ky5 5
           have ky6 : y6.heap[SB]? = some (.cells #[.int .i64 next, .int .i64 2, .int .i64 prog, .int .i64 vers, .int .i64 proc, .int .i64 0, .string ⟨#[]⟩, .int .i64 0, .string ⟨#[]⟩, .string ⟨#[]⟩] 108) := by rw [← hy6]; exact set_at ky5 5 _
           have by6 : Below w1.heap.size w1 y6 := by rw [← hy6]; exact below_set by5 hleB
           obtain ⟨y7, hy7⟩ : ∃ y, y6.setCell ⟨SB, 6, none⟩ (.string ⟨#[]⟩) = y := ⟨_, rfl⟩
           have zy7 : y6.cell? ⟨SB, 6, none⟩ = some (.string ⟨#[]⟩) := cell_at ky6 rfl
           have fy7 : y6.frozen? ⟨SB, 6, none⟩ = false := frozen_at ky6 6
           have ky7 : y7.heap[SB]? = some (.cells #[.int .i64 next, .int .i64 2, .int .i64 prog, .int .i64 vers, .int .i64 proc, .int .i64 0, .string ⟨#[]⟩, .int .i64 0, .string ⟨#[]⟩, .string ⟨#[]⟩] 108) := by rw [← hy7]; exact set_at ky6 6 _
           have by7 : Below w1.heap.size w1 y7 := by rw [← hy7]; exact below_set by6 hleB
           obtain ⟨y8, hy8⟩ : ∃ y, y7.setCell ⟨SB, 7, none⟩ (.int .i64 0) = y := ⟨_, rfl⟩
           have zy8 : y7.cell? ⟨SB, 7, none⟩ = some (.int .i64 0) := cell_at ky7 rfl
           have fy8 : y7.frozen? ⟨SB, 7, none⟩ = false := frozen_at ky7 7
           have ky8 : y8.heap[SB]? = some (.cells #[.int .i64 next, .int .i64 2, .int .i64 prog, .int .i64 vers, .int .i64 proc, .int .i64 0, .string ⟨#[]⟩, .int .i64 0, .string ⟨#[]⟩, .string ⟨#[]⟩] 108) := by rw [← hy8]; exact set_at ky7 7 _
           have by8 : Below w1.heap.size w1 y8 := by rw [← hy8]; exact below_set by7 hleB
           obtain ⟨y9, hy9⟩ : ∃ y, y8.setCell ⟨SB, 8, none⟩ (.string ⟨#[]⟩) = y := ⟨_, rfl⟩
           have zy9 : y8.cell? ⟨SB, 8, none⟩ = some (.string ⟨#[]⟩) := cell_at ky8 rfl
           have fy9 : y8.frozen? ⟨SB, 8, none⟩ = false := frozen_at ky8 8
           have ky9 : y9.heap[SB]? = some (.cells #[.int .i64 next, .int .i64 2, .int .i64 prog, .int .i64 vers, .int .i64 proc, .int .i64 0, .string ⟨#[]⟩, .int .i64 0, .string ⟨#[]⟩, .string ⟨#[]⟩] 108) := by rw [← hy9]; exact set_at ky8 8 _
           have by9 : Below w1.heap.size w1 y9 := by rw [← hy9]; exact below_set by8 hleB
           obtain ⟨y10, hy10⟩ : ∃ y, y9.setCell ⟨SB, 9, none⟩ (.string s) = y := ⟨_, rfl⟩
           have zy10 : y9.cell? ⟨SB, 9, none⟩ = some (.string ⟨#[]⟩) := cell_at ky9 rfl
           have fy10 : y9.frozen? ⟨SB, 9, none⟩ = false := frozen_at ky9 9
           have ky10 : y10.heap[SB]? = some (.cells #[.int .i64 next, .int .i64 2, .int .i64 prog, .int .i64 vers, .int .i64 proc, .int .i64 0, .string ⟨#[]⟩, .int .i64 0, .string ⟨#[]⟩, .string s] 108) := by rw [← hy10]; exact set_at ky9 9 _
           have by10 : Below w1.heap.size w1 y10 := by rw [← hy10]; exact below_set by9 hleB
           have HA2 := hid (And.intro ky10 (And.intro hleB by10))
           clear ky1 by1 ky2 by2 ky3 by3 ky4 by4 ky5 by5 ky6 by6 ky7 by7 ky8 by8 ky9 by9 ky10 by10 kb0 hleB)
         have HB2 := hid hb2
         clear hb2))
    all_goals (
      go_wp2_with fail
      go_meet
      first
        | exact ⟨_, rfl, HA.out⟩
        | exact ⟨_, rfl, HA2.out⟩)
  case rest =>
    obtain ⟨A, hA, HA⟩ := hcut
    subst hA
    obtain ⟨w2, hw2⟩ : ∃ yy, yy = wc := ⟨_, rfl⟩
    subst hw2
    have HP2 := hid (HP1.out.below HA.out.2.2 (fun _ => t + 7))
    have HKA : Hid (ext w1 K (fun _ => t + 7) A = t + 7 ∧ Mv (fun _ => False) w1 w2 K (ext w1 K (fun _ => t + 7)) ∧ A < w2.heap.size) := ⟨ext_new HA.out.2.1, Mv.of_below HA.out.2.2 K _, (Array.getElem?_eq_some_iff.1 HA.out.1).1⟩
    generalize ext w1 K (fun _ => t + 7) = K2 at HP2 HKA
    obtain ⟨o14, c14, e14, _, _⟩ := HP2.out.wr.form
    rw [List.length_map] at e14
    obtain ⟨n, hn⟩ : ∃ n, L.length = n := ⟨_, rfl⟩
    rw [hn] at e14
    subst e14
    obtain ⟨S2, hS2⟩ : ∃ y, w2.heap.size = y := ⟨_, rfl⟩
    have HKP : Hid (∀ w', Below w2.heap.size w2 w' → w'.heap[p]? = some (clB c oa cap next now (.slice o14 n c14) vd q) ∧ w'.heap[A]? = some (.cells #[.int .i64 next, .int .i64 2, .int .i64 prog, .int .i64 vers, .int .i64 proc, .int .i64 0, .string ⟨#[]⟩, .int .i64 0, .string ⟨#[]⟩, .string s] 108)) := fun w' hb => ⟨(hb.block p HP2.out.cl.lt).trans HP2.out.cl.at_, (hb.block A (Array.getElem?_eq_some_iff.1 HA.out.1).1).trans HA.out.1⟩
    have hS : ∀ w', Below w2.heap.size w2 w' → w'.cell? ⟨p, 0, none⟩ = some (.int .i64 c.ad) ∧ w'.cell? ⟨p, 1, none⟩ = some (.int .i64 c.inst) ∧ w'.cell? ⟨p, 2, none⟩ = some (.int .i64 c.first) ∧ w'.cell? ⟨p, 3, none⟩ = some (.int .i64 c.win) ∧ w'.cell? ⟨p, 4, none⟩ = some (.int .i64 c.pb) ∧ w'.cell? ⟨p, 5, none⟩ = some (.int .i64 c.pc) ∧ w'.cell? ⟨p, 6, none⟩ = some (.int .i64 c.pt) ∧ w'.cell? ⟨p, 7, none⟩ = some (.int .i64 c.sys.stamp) ∧ w'.cell? ⟨p, 8, none⟩ = some (.string ⟨c.sys.machine.toArray⟩) ∧ w'.cell? ⟨p, 9, none⟩ = some (.int .i64 c.sys.user) ∧ w'.cell? ⟨p, 10, none⟩ = some (.int .i64 c.sys.group) ∧ w'.cell? ⟨p, 11, none⟩ = some (.slice oa c.sys.groups.length cap) ∧ w'.cell? ⟨p, 12, none⟩ = some (.int .i64 next) ∧ w'.cell? ⟨p, 13, none⟩ = some (.int .i64 now) ∧ w'.cell? ⟨p, 14, none⟩ = some (.slice o14 n c14) ∧ w'.cell? ⟨A, 0, none⟩ = some (.int .i64 next) ∧ w'.cell? ⟨A, 1, none⟩ = some (.int .i64 2) ∧ w'.cell? ⟨A, 2, none⟩ = some (.int .i64 prog) ∧ w'.cell? ⟨A, 3, none⟩ = some (.int .i64 vers) ∧ w'.cell? ⟨A, 4, none⟩ = some (.int .i64 proc) ∧ w'.cell? ⟨A, 5, none⟩ = some (.int .i64 0) ∧ w'.cell? ⟨A, 6, none⟩ = some (.string ⟨#[]⟩) ∧ w'.cell? ⟨A, 7, none⟩ = some (.int .i64 0) ∧ w'.cell? ⟨A, 8, none⟩ = some (.string ⟨#[]⟩) ∧ w'.cell? ⟨A, 9, none⟩ = some (.string s) := fun w' hb => ⟨cell_at (HKP.out w' hb).1 rfl, cell_at (HKP.out w' hb).1 rfl, cell_at (HKP.out w' hb).1 rfl, cell_at (HKP.out w' hb).1 rfl, cell_at (HKP.out w' hb).1 rfl, cell_at (HKP.out w' hb).1 rfl, cell_at (HKP.out w' hb).1 rfl, cell_at (HKP.out w' hb).1 rfl, cell_at (HKP.out w' hb).1 rfl, cell_at (HKP.out w' hb).1 rfl, cell_at (HKP.out w' hb).1 rfl, cell_at (HKP.out w' hb).1 rfl, cell_at (HKP.out w' hb).1 rfl, cell_at (HKP.out w' hb).1 rfl, cell_at (HKP.out w' hb).1 rfl, cell_at (HKP.out w' hb).2 rfl, cell_at (HKP.out w' hb).2 rfl, cell_at (HKP.out w' hb).2 rfl, cell_at (HKP.out w' hb).2 rfl, cell_at (HKP.out w' hb).2 rfl, cell_at (HKP.out w' hb).2 rfl, cell_at (HKP.out w' hb).2 rfl, cell_at (HKP.out w' hb).2 rfl, cell_at (HKP.out w' hb).2 rfl, cell_at (HKP.out w' hb).2 rfl⟩
    have s0 : w2.drew.cell? ⟨p, 0, none⟩ = some (.int .i64 c.ad) ∧ w2.drew.cell? ⟨p, 1, none⟩ = some (.int .i64 c.inst) ∧ w2.drew.cell? ⟨p, 2, none⟩ = some (.int .i64 c.first) ∧ w2.drew.cell? ⟨p, 3, none⟩ = some (.int .i64 c.win) ∧ w2.drew.cell? ⟨p, 4, none⟩ = some (.int .i64 c.pb) ∧ w2.drew.cell? ⟨p, 5, none⟩ = some (.int .i64 c.pc) ∧ w2.drew.cell? ⟨p, 6, none⟩ = some (.int .i64 c.pt) ∧ w2.drew.cell? ⟨p, 7, none⟩ = some (.int .i64 c.sys.stamp) ∧ w2.drew.cell? ⟨p, 8, none⟩ = some (.string ⟨c.sys.machine.toArray⟩) ∧ w2.drew.cell? ⟨p, 9, none⟩ = some (.int .i64 c.sys.user) ∧ w2.drew.cell? ⟨p, 10, none⟩ = some (.int .i64 c.sys.group) ∧ w2.drew.cell? ⟨p, 11, none⟩ = some (.slice oa c.sys.groups.length cap) ∧ w2.drew.cell? ⟨p, 12, none⟩ = some (.int .i64 next) ∧ w2.drew.cell? ⟨p, 13, none⟩ = some (.int .i64 now) ∧ w2.drew.cell? ⟨p, 14, none⟩ = some (.slice o14 n c14) ∧ w2.drew.cell? ⟨A, 0, none⟩ = some (.int .i64 next) ∧ w2.drew.cell? ⟨A, 1, none⟩ = some (.int .i64 2) ∧ w2.drew.cell? ⟨A, 2, none⟩ = some (.int .i64 prog) ∧ w2.drew.cell? ⟨A, 3, none⟩ = some (.int .i64 vers) ∧ w2.drew.cell? ⟨A, 4, none⟩ = some (.int .i64 proc) ∧ w2.drew.cell? ⟨A, 5, none⟩ = some (.int .i64 0) ∧ w2.drew.cell? ⟨A, 6, none⟩ = some (.string ⟨#[]⟩) ∧ w2.drew.cell? ⟨A, 7, none⟩ = some (.int .i64 0) ∧ w2.drew.cell? ⟨A, 8, none⟩ = some (.string ⟨#[]⟩) ∧ w2.drew.cell? ⟨A, 9, none⟩ = some (.string s) := hS w2.drew ⟨rfl, rfl, rfl, Nat.le_refl _, fun _ _ => rfl⟩
    have HS := hid hS
    have HRq : Hid (Calls Tryz.prog 55 #[.agg (cfA c oa cap), .int .i64 dst, .agg #[.int .i64 next, .int .i64 2, .int .i64 prog, .int .i64 vers, .int .i64 proc, .int .i64 0, .string ⟨#[]⟩, .int .i64 0, .string ⟨#[]⟩, .string s]] w2.drew fun e w' => e = .returned (.func (.func 93) #[] #[ptr (S2 + 1 + 1), ptr S2, ptr (S2 + 1)]) ∧ Hid (Below w2.heap.size w2 w' ∧ w'.heap[S2]? = some (cfB c oa cap) ∧ w'.heap[S2 + 1]? = some (.cells #[.int .i64 dst] 3) ∧ w'.heap[S2 + 1 + 1]? = some (.cells #[.int .i64 next, .int .i64 2, .int .i64 prog, .int .i64 vers, .int .i64 proc, .int .i64 0, .string ⟨#[]⟩, .int .i64 0, .string ⟨#[]⟩, .string s] 108))) := by
      refine (requester_any c oa cap dst next prog vers proc s w2.drew).mono ?_
      rintro _ w' ⟨rfl, rfl⟩
      have b0 : Below w2.heap.size w2 w2.drew := ⟨rfl, rfl, rfl, Nat.le_refl _, fun _ _ => rfl⟩
      have b1 := b0.alloc b0.size (cfB c oa cap)
      have b2 := b1.alloc b1.size (.cells #[.int .i64 dst] 3)
      have h3 := three w2.drew (cfB c oa cap) (.cells #[.int .i64 dst] 3) (.cells #[.int .i64 next, .int .i64 2, .int .i64 prog, .int .i64 vers, .int .i64 proc, .int .i64 0, .string ⟨#[]⟩, .int .i64 0, .string ⟨#[]⟩, .string s] 108)
      rw [show w2.drew.heap.size = S2 from hS2] at h3
      exact ⟨by rw [← hS2]; rfl, b2.alloc b2.size _, h3.1, h3.2.1, h3.2.2⟩
    have HTt : Hid (∀ w', Calls Tryz.prog 53 #[.agg #[.int .i64 c.pb, .int .i64 c.pc, .int .i64 c.pt]] w' fun e w'' => e = .returned (.int .i64 (Pc.totalP c.pb c.pc c.pt)) ∧ Below w'.heap.size w' w'') := fun w' => Pc.total_any w' _ _ _
    obtain ⟨fin, hfin⟩ : ∃ fin, IntKind.i64.wrap (now + Pc.totalP c.pb c.pc c.pt) = fin := ⟨_, rfl⟩
    have hb113 := fun w => bld113 next dst now fin (S2 + 1 + 1) S2 (S2 + 1) w
    have hb94 := fun (b : Nat) w => bls94 b w
    have HNn := hid hn
    have HCALL : Hid (∀ w6 w7, (Below w2.heap.size w2 w6 ∧ w6.heap[S2]? = some (cfB c oa cap) ∧ w6.heap[S2 + 1]? = some (.cells #[.int .i64 dst] 3) ∧ w6.heap[S2 + 1 + 1]? = some (.cells #[.int .i64 next, .int .i64 2, .int .i64 prog, .int .i64 vers, .int .i64 proc, .int .i64 0, .string ⟨#[]⟩, .int .i64 0, .string ⟨#[]⟩, .string s] 108)) → Below w6.heap.size w6 w7 → ∀ w8 w9 P8 N9, w7.heap.size = P8 → w7.alloc (.cells #[.int .i64 next, .int .i64 dst, .func (.func 93) #[] #[ptr (S2 + 1 + 1), ptr S2, ptr (S2 + 1)], .int .i64 0, .int .i64 now, .int .i64 fin, .int .i64 0, .int .i64 0] 113) = w8 → w8.heap.size = N9 → w8.alloc (.cells #[ptr P8] 109) = w9 →
        ∃ o10 c10 w10, (∀ r, (Builtin.append_ #[94, 94] r #[.slice o14 n c14, .slice (some ⟨N9, 0, none⟩) 1 1]).run Tryz.prog w9 = .ok (.slice o10 (n + 1) c10) w10) ∧ w10.heap[p]? = some (clB c oa cap next now (.slice o14 n c14) vd q) ∧ w10.heap[A]? = some (.cells #[.int .i64 next, .int .i64 2, .int .i64 prog, .int .i64 vers, .int .i64 proc, .int .i64 0, .string ⟨#[]⟩, .int .i64 0, .string ⟨#[]⟩, .string s] 108) ∧ A ≠ p ∧ ∀ wx, w10.setCell ⟨p, 14, none⟩ (.slice o10 (n + 1) c10) = wx → ∃ K10 x o10 c10, PC K10 wx B t p c oa cap next now (L ++ [x]) D (.slice o10 (n + 1) c10) vd q ∧ wx.heap[A]? = some (.cells #[.int .i64 next, .int .i64 2, .int .i64 prog, .int .i64 vers, .int .i64 proc, .int .i64 0, .string ⟨#[]⟩, .int .i64 0, .string ⟨#[]⟩, .string s] 108) ∧ A ≠ p ∧ x.isNew dst prog vers proc args now fin next ∧ Mv (fun u => u = t ∨ u = t + 1) w1 wx K K10) := by
      intro w6 w7 h6 b67 w8 w9 P8 N9 hP8 hw8 hN9 hw9
      have l0 := (Array.getElem?_eq_some_iff.1 h6.2.1).1
      have l1 := (Array.getElem?_eq_some_iff.1 h6.2.2.1).1
      have l2 := (Array.getElem?_eq_some_iff.1 h6.2.2.2).1
      have b7 : Below w2.heap.size w2 w7 := h6.1.trans (b67.mono h6.1.size)
      obtain ⟨o10, c10, w10, K10, r10, kp, kA, hne, P10, m10⟩ := HP2.out.called (A := A) ⟨P8, S2 + 1 + 1, S2, S2 + 1, next, dst, prog, vers, proc, args, 0, now, fin, 0, 0⟩ b7 ⟨hS2.symm, by rw [hS2], by rw [hS2]⟩ ((b67.block _ l0).trans h6.2.1) ((b67.block _ l1).trans h6.2.2.1) ((b67.block _ l2).trans (by rw [h6.2.2.2, ← hs0])) hP8 hw8 hN9 hw9 HLn.out ⟨HKA.out.2.2, HKA.out.1⟩
      rw [hn] at r10 P10 m10
      have kA' := kA.trans HA.out.1
      refine ⟨o10, c10, w10, r10, kp, kA', hne, fun wx hwx => ?_⟩
      rw [hwx] at P10 m10
      refine ⟨K10, _, o10, c10, P10, ?_, hne, ⟨rfl, rfl, rfl, rfl, rfl, rfl, rfl, rfl, rfl, rfl, rfl⟩, (HKA.out.2.1.mono (fun _ e => e.elim)).trans m10⟩
      rw [← hwx, Below.heap_setCell _ _ _ _ hne]
      exact kA'
    clear hS HA hn
    go_wp2_with fail
    go_cut [71] (fun _ wx => Hid (∃ K10 x o10 c10, PC K10 wx B t p c oa cap next now (L ++ [x]) D (.slice o10 (n + 1) c10) vd q ∧ wx.heap[A]? = some (.cells #[.int .i64 next, .int .i64 2, .int .i64 prog, .int .i64 vers, .int .i64 proc, .int .i64 0, .string ⟨#[]⟩, .int .i64 0, .string ⟨#[]⟩, .string s] 108) ∧ A ≠ p ∧ x.isNew dst prog vers proc args now fin next ∧ Mv (fun u => u = t ∨ u = t + 1) w1 wx K K10))
    case first =>
      refine wp_region_last (S := fun w' => w'.cell? ⟨p, 0, none⟩ = some (.int .i64 c.ad) ∧ w'.cell? ⟨p, 1, none⟩ = some (.int .i64 c.inst) ∧ w'.cell? ⟨p, 2, none⟩ = some (.int .i64 c.first) ∧ w'.cell? ⟨p, 3, none⟩ = some (.int .i64 c.win) ∧ w'.cell? ⟨p, 4, none⟩ = some (.int .i64 c.pb) ∧ w'.cell? ⟨p, 5, none⟩ = some (.int .i64 c.pc) ∧ w'.cell? ⟨p, 6, none⟩ = some (.int .i64 c.pt) ∧ w'.cell? ⟨p, 7, none⟩ = some (.int .i64 c.sys.stamp) ∧ w'.cell? ⟨p, 8, none⟩ = some (.string ⟨c.sys.machine.toArray⟩) ∧ w'.cell? ⟨p, 9, none⟩ = some (.int .i64 c.sys.user) ∧ w'.cell? ⟨p, 10, none⟩ = some (.int .i64 c.sys.group) ∧ w'.cell? ⟨p, 11, none⟩ = some (.slice oa c.sys.groups.length cap) ∧ w'.cell? ⟨p, 12, none⟩ = some (.int .i64 next) ∧ w'.cell? ⟨p, 13, none⟩ = some (.int .i64 now) ∧ w'.cell? ⟨p, 14, none⟩ = some (.slice o14 n c14) ∧ w'.cell? ⟨A, 0, none⟩ = some (.int .i64 next) ∧ w'.cell? ⟨A, 1, none⟩ = some (.int .i64 2) ∧ w'.cell? ⟨A, 2, none⟩ = some (.int .i64 prog) ∧ w'.cell? ⟨A, 3, none⟩ = some (.int .i64 vers) ∧ w'.cell? ⟨A, 4, none⟩ = some (.int .i64 proc) ∧ w'.cell? ⟨A, 5, none⟩ = some (.int .i64 0) ∧ w'.cell? ⟨A, 6, none⟩ = some (.string ⟨#[]⟩) ∧ w'.cell? ⟨A, 7, none⟩ = some (.int .i64 0) ∧ w'.cell? ⟨A, 8, none⟩ = some (.string ⟨#[]⟩) ∧ w'.cell? ⟨A, 9, none⟩ = some (.string s)) (n := 38) (by kernel_rfl) rfl (by kernel_rfl) (by kernel_rfl) ?_ (fun hHeld => ?_)
      · exact s0
      refine wpAnyH_take (i := 0) (v := ?_) rfl (by kernel_rfl) (by kernel_rfl) (by kernel_rfl) (fun _ _ _ h => h) (Or.inl ⟨by rfl, ?_⟩) (by assumption) ?_
      rotate_left
      · (intro w hSw; (try dsimp only at hSw); go_simp; try with_reducible rfl)
      try simp only [Act.put]
      try simp only [List.setIfInBounds_toArray]
      try simp only [List.set_cons_succ]
      try simp only [List.set_cons_zero]
      refine wpAnyH_take (i := 1) (v := ?_) rfl (by kernel_rfl) (by kernel_rfl) (by kernel_rfl) (fun _ _ _ h => h) (Or.inl ⟨by rfl, ?_⟩) (by assumption) ?_
      rotate_left
      · (intro w hSw; (try dsimp only at hSw); go_simp; try with_reducible rfl)
      try simp only [Act.put]
      try simp only [List.setIfInBounds_toArray]
      try simp only [List.set_cons_succ]
      try simp only [List.set_cons_zero]
      refine wpAnyH_take (i := 2) (v := ?_) rfl (by kernel_rfl) (by kernel_rfl) (by kernel_rfl) (fun _ _ _ h => h) (Or.inl ⟨by rfl, ?_⟩) (by assumption) ?_
      rotate_left
      · (intro w hSw; (try dsimp only at hSw); go_simp; try with_reducible rfl)
      try simp only [Act.put]
      try simp only [List.setIfInBounds_toArray]
      try simp only [List.set_cons_succ]
      try simp only [List.set_cons_zero]
      refine wpAnyH_take (i := 3) (v := ?_) rfl (by kernel_rfl) (by kernel_rfl) (by kernel_rfl) (fun _ _ _ h => h) (Or.inl ⟨by rfl, ?_⟩) (by assumption) ?_
      rotate_left
      · (intro w hSw; (try dsimp only at hSw); go_simp; try with_reducible rfl)
      try simp only [Act.put]
      try simp only [List.setIfInBounds_toArray]
      try simp only [List.set_cons_succ]
      try simp only [List.set_cons_zero]
      refine wpAnyH_take (i := 4) (v := ?_) rfl (by kernel_rfl) (by kernel_rfl) (by kernel_rfl) (fun _ _ _ h => h) (Or.inl ⟨by rfl, ?_⟩) (by assumption) ?_
      rotate_left
      · (intro w hSw; (try dsimp only at hSw); go_simp; try with_reducible rfl)
      try simp only [Act.put]
      try simp only [List.setIfInBounds_toArray]
      try simp only [List.set_cons_succ]
      try simp only [List.set_cons_zero]
      refine wpAnyH_take (i := 5) (v := ?_) rfl (by kernel_rfl) (by kernel_rfl) (by kernel_rfl) (fun _ _ _ h => h) (Or.inl ⟨by rfl, ?_⟩) (by assumption) ?_
      rotate_left
      · (intro w hSw; (try dsimp only at hSw); go_simp; try with_reducible rfl)
      try simp only [Act.put]
      try simp only [List.setIfInBounds_toArray]
      try simp only [List.set_cons_succ]
      try simp only [List.set_cons_zero]
      refine wpAnyH_take (i := 6) (v := ?_) rfl (by kernel_rfl) (by kernel_rfl) (by kernel_rfl) (fun _ _ _ h => h) (Or.inl ⟨by rfl, ?_⟩) (by assumption) ?_
      rotate_left
      · (intro w hSw; (try dsimp only at hSw); go_simp; try with_reducible rfl)
      try simp only [Act.put]
      try simp only [List.setIfInBounds_toArray]
      try simp only [List.set_cons_succ]
      try simp only [List.set_cons_zero]
      refine wpAnyH_take (i := 7) (v := ?_) rfl (by kernel_rfl) (by kernel_rfl) (by kernel_rfl) (fun _ _ _ h => h) (Or.inl ⟨by rfl, ?_⟩) (by assumption) ?_
      rotate_left
      · (intro w hSw; (try dsimp only at hSw); go_simp; try with_reducible rfl)
      try simp only [Act.put]
      try simp only [List.setIfInBounds_toArray]
      try simp only [List.set_cons_succ]
      try simp only [List.set_cons_zero]
      refine wpAnyH_take (i := 8) (v := ?_) rfl (by kernel_rfl) (by kernel_rfl) (by kernel_rfl) (fun _ _ _ h => h) (Or.inl ⟨by rfl, ?_⟩) (by assumption) ?_
      rotate_left
      · (intro w hSw; (try dsimp only at hSw); go_simp; try with_reducible rfl)
      try simp only [Act.put]
      try simp only [List.setIfInBounds_toArray]
      try simp only [List.set_cons_succ]
      try simp only [List.set_cons_zero]
      refine wpAnyH_take (i := 9) (v := ?_) rfl (by kernel_rfl) (by kernel_rfl) (by kernel_rfl) (fun _ _ _ h => h) (Or.inl ⟨by rfl, ?_⟩) (by assumption) ?_
      rotate_left
      · (intro w hSw; (try dsimp only at hSw); go_simp; try with_reducible rfl)
      try simp only [Act.put]
      try simp only [List.setIfInBounds_toArray]
      try simp only [List.set_cons_succ]
      try simp only [List.set_cons_zero]
      refine wpAnyH_take (i := 10) (v := ?_) rfl (by kernel_rfl) (by kernel_rfl) (by kernel_rfl) (fun _ _ _ h => h) (Or.inl ⟨by rfl, ?_⟩) (by assumption) ?_
      rotate_left
      · (intro w hSw; (try dsimp only at hSw); go_simp; try with_reducible rfl)
      try simp only [Act.put]
      try simp only [List.setIfInBounds_toArray]
      try simp only [List.set_cons_succ]
      try simp only [List.set_cons_zero]
      refine wpAnyH_take (i := 11) (v := ?_) rfl (by kernel_rfl) (by kernel_rfl) (by kernel_rfl) (fun _ _ _ h => h) (Or.inl ⟨by rfl, ?_⟩) (by assumption) ?_
      rotate_left
      · (intro w hSw; (try dsimp only at hSw); go_simp; try with_reducible rfl)
      try simp only [Act.put]
      try simp only [List.setIfInBounds_toArray]
      try simp only [List.set_cons_succ]
      try simp only [List.set_cons_zero]
      refine wpAnyH_take (i := 12) (v := ?_) rfl (by kernel_rfl) (by kernel_rfl) (by kernel_rfl) (fun _ _ _ h => h) (Or.inl ⟨by rfl, ?_⟩) (by assumption) ?_
      rotate_left
      · (intro w hSw; (try dsimp only at hSw); go_simp; try with_reducible rfl)
      try simp only [Act.put]
      try simp only [List.setIfInBounds_toArray]
      try simp only [List.set_cons_succ]
      try simp only [List.set_cons_zero]
      refine wpAnyH_take (i := 13) (v := ?_) rfl (by kernel_rfl) (by kernel_rfl) (by kernel_rfl) (fun _ _ _ h => h) (Or.inl ⟨by rfl, ?_⟩) (by assumption) ?_
      rotate_left
      · (intro w hSw; (try dsimp only at hSw); go_simp; try with_reducible rfl)
      try simp only [Act.put]
      try simp only [List.setIfInBounds_toArray]
      try simp only [List.set_cons_succ]
      try simp only [List.set_cons_zero]
      refine wpAnyH_take (i := 14) (v := ?_) rfl (by kernel_rfl) (by kernel_rfl) (by kernel_rfl) (fun _ _ _ h => h) (Or.inl ⟨by rfl, ?_⟩) (by assumption) ?_
      rotate_left
      · (intro w hSw; (try dsimp only at hSw); go_simp; try with_reducible rfl)
      try simp only [Act.put]
      try simp only [List.setIfInBounds_toArray]
      try simp only [List.set_cons_succ]
      try simp only [List.set_cons_zero]
      refine wpAnyH_take (i := 15) (v := ?_) rfl (by kernel_rfl) (by kernel_rfl) (by kernel_rfl) (fun _ _ _ h => h) (Or.inl ⟨by rfl, ?_⟩) (by assumption) ?_
      rotate_left
      · (intro w hSw; (try dsimp only at hSw); go_simp; try with_reducible rfl)
      try simp only [Act.put]
      try simp only [List.setIfInBounds_toArray]
      try simp only [List.set_cons_succ]
      try simp only [List.set_cons_zero]
      refine wpAnyH_take (i := 17) (v := ?_) rfl (by kernel_rfl) (by kernel_rfl) (by kernel_rfl) (fun _ _ _ h => h) (Or.inl ⟨by rfl, ?_⟩) (by assumption) ?_
      rotate_left
      · (intro w hSw; (try dsimp only at hSw); go_simp; try with_reducible rfl)
      try simp only [Act.put]
      try simp only [List.setIfInBounds_toArray]
      try simp only [List.set_cons_succ]
      try simp only [List.set_cons_zero]
      refine wpAnyH_take (i := 18) (v := ?_) rfl (by kernel_rfl) (by kernel_rfl) (by kernel_rfl) (fun _ _ _ h => h) (Or.inl ⟨by rfl, ?_⟩) (by assumption) ?_
      rotate_left
      · (intro w hSw; (try dsimp only at hSw); go_simp; try with_reducible rfl)
      try simp only [Act.put]
      try simp only [List.setIfInBounds_toArray]
      try simp only [List.set_cons_succ]
      try simp only [List.set_cons_zero]
      refine wpAnyH_take (i := 19) (v := ?_) rfl (by kernel_rfl) (by kernel_rfl) (by kernel_rfl) (fun _ _ _ h => h) (Or.inl ⟨by rfl, ?_⟩) (by assumption) ?_
      rotate_left
      · (intro w hSw; (try dsimp only at hSw); go_simp; try with_reducible rfl)
      try simp only [Act.put]
      try simp only [List.setIfInBounds_toArray]
      try simp only [List.set_cons_succ]
      try simp only [List.set_cons_zero]
      refine wpAnyH_take (i := 20) (v := ?_) rfl (by kernel_rfl) (by kernel_rfl) (by kernel_rfl) (fun _ _ _ h => h) (Or.inl ⟨by rfl, ?_⟩) (by assumption) ?_
      rotate_left
      · (intro w hSw; (try dsimp only at hSw); go_simp; try with_reducible rfl)
      try simp only [Act.put]
      try simp only [List.setIfInBounds_toArray]
      try simp only [List.set_cons_succ]
      try simp only [List.set_cons_zero]
      refine wpAnyH_take (i := 21) (v := ?_) rfl (by kernel_rfl) (by kernel_rfl) (by kernel_rfl) (fun _ _ _ h => h) (Or.inl ⟨by rfl, ?_⟩) (by assumption) ?_
      rotate_left
      · (intro w hSw; (try dsimp only at hSw); go_simp; try with_reducible rfl)
      try simp only [Act.put]
      try simp only [List.setIfInBounds_toArray]
      try simp only [List.set_cons_succ]
      try simp only [List.set_cons_zero]
      refine wpAnyH_take (i := 22) (v := ?_) rfl (by kernel_rfl) (by kernel_rfl) (by kernel_rfl) (fun _ _ _ h => h) (Or.inl ⟨by rfl, ?_⟩) (by assumption) ?_
      rotate_left
      · (intro w hSw; (try dsimp only at hSw); go_simp; try with_reducible rfl)
      try simp only [Act.put]
      try simp only [List.setIfInBounds_toArray]
      try simp only [List.set_cons_succ]
      try simp only [List.set_cons_zero]
      refine wpAnyH_take (i := 23) (v := ?_) rfl (by kernel_rfl) (by kernel_rfl) (by kernel_rfl) (fun _ _ _ h => h) (Or.inl ⟨by rfl, ?_⟩) (by assumption) ?_
      rotate_left
      · (intro w hSw; (try dsimp only at hSw); go_simp; try with_reducible rfl)
      try simp only [Act.put]
      try simp only [List.setIfInBounds_toArray]
      try simp only [List.set_cons_succ]
      try simp only [List.set_cons_zero]
      refine wpAnyH_take (i := 24) (v := ?_) rfl (by kernel_rfl) (by kernel_rfl) (by kernel_rfl) (fun _ _ _ h => h) (Or.inl ⟨by rfl, ?_⟩) (by assumption) ?_
      rotate_left
      · (intro w hSw; (try dsimp only at hSw); go_simp; try with_reducible rfl)
      try simp only [Act.put]
      try simp only [List.setIfInBounds_toArray]
      try simp only [List.set_cons_succ]
      try simp only [List.set_cons_zero]
      refine wpAnyH_take (i := 25) (v := ?_) rfl (by kernel_rfl) (by kernel_rfl) (by kernel_rfl) (fun _ _ _ h => h) (Or.inl ⟨by rfl, ?_⟩) (by assumption) ?_
      rotate_left
      · (intro w hSw; (try dsimp only at hSw); go_simp; try with_reducible rfl)
      try simp only [Act.put]
      try simp only [List.setIfInBounds_toArray]
      try simp only [List.set_cons_succ]
      try simp only [List.set_cons_zero]
      refine wpAnyH_take (i := 26) (v := ?_) rfl (by kernel_rfl) (by kernel_rfl) (by kernel_rfl) (fun _ _ _ h => h) (Or.inl ⟨by rfl, ?_⟩) (by assumption) ?_
      rotate_left
      · (intro w hSw; (try dsimp only at hSw); go_simp; try with_reducible rfl)
      try simp only [Act.put]
      try simp only [List.setIfInBounds_toArray]
      try simp only [List.set_cons_succ]
      try simp only [List.set_cons_zero]
      refine wpAnyH_take (i := 27) (v := ?_) rfl (by kernel_rfl) (by kernel_rfl) (by kernel_rfl) (fun _ _ _ h => h) (Or.inl ⟨by rfl, ?_⟩) (by assumption) ?_
      rotate_left
      · (intro w hSw; (try dsimp only at hSw); go_simp; try with_reducible rfl)
      try simp only [Act.put]
      try simp only [List.setIfInBounds_toArray]
      try simp only [List.set_cons_succ]
      try simp only [List.set_cons_zero]
      refine wpAnyH_take (i := 28) (v := ?_) rfl (by kernel_rfl) (by kernel_rfl) (by kernel_rfl) (fun _ _ _ h => h) (Or.inl ⟨by rfl, ?_⟩) (by assumption) ?_
      rotate_left
      · (intro w hSw; (try dsimp only at hSw); go_simp; try with_reducible rfl)
      try simp only [Act.put]
      try simp only [List.setIfInBounds_toArray]
      try simp only [List.set_cons_succ]
      try simp only [List.set_cons_zero]
      refine wpAnyH_take (i := 29) (v := ?_) rfl (by kernel_rfl) (by kernel_rfl) (by kernel_rfl) (fun _ _ _ h => h) (Or.inl ⟨by rfl, ?_⟩) (by assumption) ?_
      rotate_left
      · (intro w hSw; (try dsimp only at hSw); go_simp; try with_reducible rfl)
      try simp only [Act.put]
      try simp only [List.setIfInBounds_toArray]
      try simp only [List.set_cons_succ]
      try simp only [List.set_cons_zero]
      refine wpAnyH_ready (rs := [16]) (by kernel_rfl) (by simp) ?_
      refine AllReadyH.cons rfl (fun K hK => ?_) AllReadyH.nil
      go_simp
      refine HRq.out.mono ?_
      rintro _ w6 ⟨rfl, H6⟩
      have s6 := HS.out w6 H6.out.1
      refine hK.out _ _ ?_ (fun hHeld6 => ?_)
      · exact s6
      clear hK hHeld
      try simp only [Act.put]
      try simp only [List.setIfInBounds_toArray]
      try simp only [List.set_cons_succ]
      try simp only [List.set_cons_zero]
      refine wpAnyH_ready (rs := [30]) (by kernel_rfl) (by simp) ?_
      refine AllReadyH.cons rfl (fun K hK => ?_) AllReadyH.nil
      go_simp
      refine (HTt.out _).mono ?_
      rintro _ w7 ⟨rfl, hb7⟩
      have b7 : Below w2.heap.size w2 w7 := H6.out.1.trans (Below.mono ⟨hb7.os, hb7.tape, hb7.output, hb7.size, hb7.block⟩ H6.out.1.size)
      have s7 := HS.out w7 b7
      obtain ⟨P8, hP8⟩ : ∃ y, w7.heap.size = y := ⟨_, rfl⟩
      obtain ⟨w8, hw8⟩ : ∃ y, w7.alloc (.cells #[.int .i64 next, .int .i64 dst, .func (.func 93) #[] #[ptr (S2 + 1 + 1), ptr S2, ptr (S2 + 1)], .int .i64 0, .int .i64 now, .int .i64 fin, .int .i64 0, .int .i64 0] 113) = y := ⟨_, rfl⟩
      have b8 : Below w2.heap.size w2 w8 := by rw [← hw8]; exact b7.alloc b7.size _
      have s8 := HS.out w8 b8
      obtain ⟨N9, hN9⟩ : ∃ y, w8.heap.size = y := ⟨_, rfl⟩
      obtain ⟨w9, hw9⟩ : ∃ y, w8.alloc (.cells #[ptr P8] 109) = y := ⟨_, rfl⟩
      have b9 : Below w2.heap.size w2 w9 := by rw [← hw9]; exact b8.alloc b8.size _
      have s9 := HS.out w9 b9
      obtain ⟨o10, c10, w10, r10, kp10, kA10, hne, hfin2⟩ := HCALL.out w6 w7 H6.out ⟨hb7.os, hb7.tape, hb7.output, hb7.size, hb7.block⟩ w8 w9 P8 N9 hP8 hw8 hN9 hw9
      have s10 : w10.cell? ⟨p, 0, none⟩ = some (.int .i64 c.ad) ∧ w10.cell? ⟨p, 1, none⟩ = some (.int .i64 c.inst) ∧ w10.cell? ⟨p, 2, none⟩ = some (.int .i64 c.first) ∧ w10.cell? ⟨p, 3, none⟩ = some (.int .i64 c.win) ∧ w10.cell? ⟨p, 4, none⟩ = some (.int .i64 c.pb) ∧ w10.cell? ⟨p, 5, none⟩ = some (.int .i64 c.pc) ∧ w10.cell? ⟨p, 6, none⟩ = some (.int .i64 c.pt) ∧ w10.cell? ⟨p, 7, none⟩ = some (.int .i64 c.sys.stamp) ∧ w10.cell? ⟨p, 8, none⟩ = some (.string ⟨c.sys.machine.toArray⟩) ∧ w10.cell? ⟨p, 9, none⟩ = some (.int .i64 c.sys.user) ∧ w10.cell? ⟨p, 10, none⟩ = some (.int .i64 c.sys.group) ∧ w10.cell? ⟨p, 11, none⟩ = some (.slice oa c.sys.groups.length cap) ∧ w10.cell? ⟨p, 12, none⟩ = some (.int .i64 next) ∧ w10.cell? ⟨p, 13, none⟩ = some (.int .i64 now) ∧ w10.cell? ⟨p, 14, none⟩ = some (.slice o14 n c14) ∧ w10.cell? ⟨A, 0, none⟩ = some (.int .i64 next) ∧ w10.cell? ⟨A, 1, none⟩ = some (.int .i64 2) ∧ w10.cell? ⟨A, 2, none⟩ = some (.int .i64 prog) ∧ w10.cell? ⟨A, 3, none⟩ = some (.int .i64 vers) ∧ w10.cell? ⟨A, 4, none⟩ = some (.int .i64 proc) ∧ w10.cell? ⟨A, 5, none⟩ = some (.int .i64 0) ∧ w10.cell? ⟨A, 6, none⟩ = some (.string ⟨#[]⟩) ∧ w10.cell? ⟨A, 7, none⟩ = some (.int .i64 0) ∧ w10.cell? ⟨A, 8, none⟩ = some (.string ⟨#[]⟩) ∧ w10.cell? ⟨A, 9, none⟩ = some (.string s) := ⟨cell_at kp10 rfl, cell_at kp10 rfl, cell_at kp10 rfl, cell_at kp10 rfl, cell_at kp10 rfl, cell_at kp10 rfl, cell_at kp10 rfl, cell_at kp10 rfl, cell_at kp10 rfl, cell_at kp10 rfl, cell_at kp10 rfl, cell_at kp10 rfl, cell_at kp10 rfl, cell_at kp10 rfl, cell_at kp10 rfl, cell_at kA10 rfl, cell_at kA10 rfl, cell_at kA10 rfl, cell_at kA10 rfl, cell_at kA10 rfl, cell_at kA10 rfl, cell_at kA10 rfl, cell_at kA10 rfl, cell_at kA10 rfl, cell_at kA10 rfl⟩
      have y10 : w10.cell? ⟨p, 14, none⟩ = some (.slice o14 n c14) := cell_at kp10 rfl
      have f10 := frozen_at kp10 14
      obtain ⟨w11, hw11⟩ : ∃ y, w10.setCell ⟨p, 14, none⟩ (.slice o10 (n + 1) c10) = y := ⟨_, rfl⟩
      have HR10 := hid r10
      have HE := hid (hfin2 w11 hw11)
      clear r10 b8 b9 b7 kp10 kA10 hfin2
      refine hK.out _ _ ?_ (fun hHeld7 => ?_)
      · exact s7
      clear hK hHeld6
      try simp only [Act.put]
      try simp only [List.setIfInBounds_toArray]
      try simp only [List.set_cons_succ]
      try simp only [List.set_cons_zero]
      refine wpAnyH_take (i := 31) (v := ?_) rfl (by kernel_rfl) (by kernel_rfl) (by kernel_rfl) (fun _ _ _ h => h) (Or.inl ⟨by rfl, ?_⟩) (by assumption) ?_
      rotate_left
      · (intro w hSw; (try dsimp only at hSw); go_simp; try with_reducible rfl)
      try simp only [Act.put]
      try simp only [List.setIfInBounds_toArray]
      try simp only [List.set_cons_succ]
      try simp only [List.set_cons_zero]
      refine wpAnyH_take (i := 32) (v := ?_) rfl (by kernel_rfl) (by kernel_rfl) (by kernel_rfl) (fun _ _ _ h => h) (Or.inl ⟨by rfl, ?_⟩) (by assumption) ?_
      rotate_left
      · (intro w hSw; (try dsimp only at hSw); go_simp; try with_reducible rfl)
      try simp only [Act.put]
      try simp only [List.setIfInBounds_toArray]
      try simp only [List.set_cons_succ]
      try simp only [List.set_cons_zero]
      refine wpAnyH_ready (rs := [33]) (by kernel_rfl) (by simp) ?_
      refine AllReadyH.cons rfl (fun K hK => ?_) AllReadyH.nil
      go_simp
      refine hK.out _ _ ?_ (fun hHeld8 => ?_)
      · exact s8
      clear hK hHeld7
      try simp only [Act.put]
      try simp only [List.setIfInBounds_toArray]
      try simp only [List.set_cons_succ]
      try simp only [List.set_cons_zero]
      refine wpAnyH_ready (rs := [34]) (by kernel_rfl) (by simp) ?_
      refine AllReadyH.cons rfl (fun K hK => ?_) AllReadyH.nil
      go_simp
      refine hK.out _ _ ?_ (fun hHeld9 => ?_)
      · exact s9
      clear hK hHeld8
      try simp only [Act.put]
      try simp only [List.setIfInBounds_toArray]
      try simp only [List.set_cons_succ]
      try simp only [List.set_cons_zero]
      refine wpAnyH_ready (rs := [35]) (by kernel_rfl) (by simp) ?_
      refine AllReadyH.cons rfl (fun K hK => ?_) AllReadyH.nil
      refine step_app rfl (.tmp 40) (.tmp 70) 94 rfl (.slice o14 n c14) (.slice (some ⟨N9, 0, none⟩) 1 1) _ _ (by go_simp) (by go_simp) (HR10.out _) ?_
      refine hK.out _ _ ?_ (fun hHeld10 => ?_)
      · exact s10
      clear hK hHeld9
      try simp only [Act.put]
      try simp only [List.setIfInBounds_toArray]
      try simp only [List.set_cons_succ]
      try simp only [List.set_cons_zero]
      refine wpAnyH_take (i := 36) (v := ?_) rfl (by kernel_rfl) (by kernel_rfl) (by kernel_rfl) (fun _ _ _ h => h) (Or.inl ⟨by rfl, ?_⟩) (by assumption) ?_
      rotate_left
      · (intro w hSw; (try dsimp only at hSw); go_simp; try with_reducible rfl)
      try simp only [Act.put]
      try simp only [List.setIfInBounds_toArray]
      try simp only [List.set_cons_succ]
      try simp only [List.set_cons_zero]
      refine wpAnyH_take (i := 37) (v := ?_) rfl (by kernel_rfl) (by kernel_rfl) (by kernel_rfl) (fun _ _ _ h => h) (Or.inl ⟨by rfl, ?_⟩) (by assumption) ?_
      rotate_left
      · (intro w hSw; (try dsimp only at hSw); go_simp; try with_reducible rfl)
      try simp only [Act.put]
      try simp only [List.setIfInBounds_toArray]
      try simp only [List.set_cons_succ]
      try simp only [List.set_cons_zero]
      refine wpAnyH_done (by kernel_rfl) ?_ _
      refine LastQ.done ?_
      refine wpOp_step (i := 38) rfl (fun K hK => ?_)
      have HK := hid hK
      clear hK
      go_simp
      refine HK.out _ _ ?_
      clear HK
      go_wp2_with fail
      go_meet
      exact HE.out
    case rest =>
      obtain ⟨K10, x, o10, c10, P10, kA, hne, hnew, m10⟩ := hcut.out
      obtain ⟨w3, hw3⟩ : ∃ yy, yy = wc := ⟨_, rfl⟩
      subst hw3
      have d12 : w3.cell? ⟨p, 12, none⟩ = some (.int .i64 next) := P10.ce rfl
      have g12 := P10.fz 12
      have hnx : wrap64 (next + 1) = next + 1 := HNX.out
      obtain ⟨w4, hw4⟩ : ∃ y, w3.setCell ⟨p, 12, none⟩ (.int .i64 (next + 1)) = y := ⟨_, rfl⟩
      have Pn := P10.next_ (next + 1)
      rw [hw4] at Pn
      have a0 : w4.cell? ⟨A, 0, none⟩ = some (.int .i64 next) := by rw [← hw4]; exact (World.cell?_of_block (a := ⟨A, 0, none⟩) (Below.heap_setCell _ _ _ _ hne)).trans (cell_at kA rfl)
      have HF : Hid (∃ K' x o' c', PC K' w4 B t p c oa cap (next + 1) now (L ++ [x]) D (.slice o' (n + 1) c') vd q ∧ x.isNew dst prog vers proc args now fin next ∧ Mv (fun u => u = t ∨ u = t + 1) w1 w4 K K') := ⟨K10, x, o10, c10, Pn.1, hnew, m10.trans (Pn.2.mono (fun u e => .inl e))⟩
      clear P10 kA hne hnew m10 hcut Pn
      go_wp2
      go_ret2
      refine ⟨rfl, ?_⟩
      have hf := HF.out
      rw [← HNn.out] at hf
      obtain ⟨K', x, o', c', q1, q2, q3⟩ := hf
      exact ⟨K', x, _, _, q1, ⟨_, hfin, q2⟩, HW1.out.trans q3⟩
end
end Go.Proofs.YtfcbjcebkahehaaGreatDoor.Cl
