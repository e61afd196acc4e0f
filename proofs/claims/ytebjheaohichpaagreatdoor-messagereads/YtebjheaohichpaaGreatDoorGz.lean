/- The law's own functions: a call made fit. The law's own functions: a reply made fit. -/
import Derived.Test.YtebjheaohichpaaGreatDoorGy
namespace Go.Proofs.YtebjheaohichpaaGreatDoor
open Go.RowKit
/-- numbers and texts as a machine has them -/
structure Call64 (c : CallP) : Prop where
  xid : In64 c.xid
  rpc : In64 c.rpc
  prog : In64 c.prog
  vers : In64 c.vers
  proc : In64 c.proc
  cf : In64 c.cred.flavor
  vf : In64 c.verf.flavor
  cb : c.cred.body.length ≤ 140737488355328
  vb : c.verf.body.length ≤ 140737488355328
  ar : c.args.length ≤ 140737488355328
def fitP (c : CallP) : CallP := ⟨pickP c.xid 4294967296, 2, pickP c.prog 4294967296, pickP c.vers 4294967296, pickP c.proc 4294967296, autP c.cred, autP c.verf, fourP c.args⟩
theorem fit_may (c : CallP) : (fitP c).may := ⟨pick_word _, rfl, pick_word _, pick_word _, pick_word _, aut_may _, aut_may _, four_plain _⟩
set_option maxRecDepth 8000 in
set_option maxHeartbeats 8000000 in
theorem fitted_any (c : CallP) (w : World) (h : Call64 c) :
    Calls Tryz.prog 11 #[.agg (callV c).toArray] w fun e w' => e = .returned (.agg (callV (fitP c)).toArray) ∧ Below w.heap.size w w' := by
  obtain ⟨wa, hwa⟩ : ∃ x, w.alloc (.cells #[.int .i64 c.xid, .int .i64 c.rpc, .int .i64 c.prog, .int .i64 c.vers, .int .i64 c.proc, .int .i64 c.cred.flavor, .string ⟨c.cred.body.toArray⟩, .int .i64 c.verf.flavor, .string ⟨c.verf.body.toArray⟩, .string ⟨c.args.toArray⟩] 25) = x := ⟨_, rfl⟩
  obtain ⟨hk, hB, hz⟩ := boxed w wa _ _ hwa
  obtain ⟨wb, hwb⟩ : ∃ x, wa.alloc (.cells #[.int .i64 0, .int .i64 0, .int .i64 0, .int .i64 0, .int .i64 0, .int .i64 0, .string ⟨#[]⟩, .int .i64 0, .string ⟨#[]⟩, .string ⟨#[]⟩] 25) = x := ⟨_, rfl⟩
  obtain ⟨hk2, hB2, hz2⟩ := boxed wa wb _ _ hwb
  rw [hz] at hk2
  have hA : ∀ a : AuthP, In64 a.flavor → a.body.length ≤ 140737488355328 → ∀ w, Calls Tryz.prog 33 #[.agg #[.int .i64 a.flavor, .string ⟨a.body.toArray⟩]] w fun e w' => e = .returned (.agg #[.int .i64 (autP a).flavor, .string ⟨(autP a).body.toArray⟩]) ∧ Below w.heap.size w w' := fun a h1 h2 w => auth_any a w h1 (by omega)
  have hP : ∀ x, In64 x → ∀ w, Calls Tryz.prog 14 #[.int .i64 x, .int .i64 4294967296] w fun e w' => e = .returned (.int .i64 (pickP x 4294967296)) ∧ w' = w := fun x h1 w => pick_any x _ w h1.1 h1.2 (by decide) (by decide)
  have HP0 := hid (hP _ h.xid)
  have HP1 := hid (hP _ h.prog)
  have HP2 := hid (hP _ h.vers)
  have HP3 := hid (hP _ h.proc)
  have HA0 := hid (hA _ h.cf h.cb)
  have HA1 := hid (hA _ h.vf h.vb)
  have HF := hid (fun w => four_any c.args w (by have := h.ar; omega))
  have HKB : Hid (∀ wx, Below wb.heap.size wb wx → Bk wx w.heap.size [.int .i64 c.xid, .int .i64 c.rpc, .int .i64 c.prog, .int .i64 c.vers, .int .i64 c.proc, .int .i64 c.cred.flavor, .string ⟨c.cred.body.toArray⟩, .int .i64 c.verf.flavor, .string ⟨c.verf.body.toArray⟩, .string ⟨c.args.toArray⟩] 25 ∧ Bk wx (w.heap.size + 1) [.int .i64 0, .int .i64 0, .int .i64 0, .int .i64 0, .int .i64 0, .int .i64 0, .string ⟨#[]⟩, .int .i64 0, .string ⟨#[]⟩, .string ⟨#[]⟩] 25 ∧ Below w.heap.size w wx) := fun wx hx => ⟨(hk.below hB2 (by omega)).below hx (by omega), hk2.below hx (by omega), (hB.trans (hB2.mono (by omega))).trans (hx.mono (by omega))⟩
  have K : Hid (∀ wx, Below wb.heap.size wb wx → wx.cell? ⟨w.heap.size, 0, none⟩ = some (.int .i64 c.xid) ∧ wx.cell? ⟨w.heap.size, 1, none⟩ = some (.int .i64 c.rpc) ∧ wx.cell? ⟨w.heap.size, 2, none⟩ = some (.int .i64 c.prog) ∧ wx.cell? ⟨w.heap.size, 3, none⟩ = some (.int .i64 c.vers) ∧ wx.cell? ⟨w.heap.size, 4, none⟩ = some (.int .i64 c.proc) ∧ wx.cell? ⟨w.heap.size, 5, none⟩ = some (.int .i64 c.cred.flavor) ∧ wx.cell? ⟨w.heap.size, 6, none⟩ = some (.string ⟨c.cred.body.toArray⟩) ∧ wx.cell? ⟨w.heap.size, 7, none⟩ = some (.int .i64 c.verf.flavor) ∧ wx.cell? ⟨w.heap.size, 8, none⟩ = some (.string ⟨c.verf.body.toArray⟩) ∧ wx.cell? ⟨w.heap.size, 9, none⟩ = some (.string ⟨c.args.toArray⟩)) := fun wx hx => by
    have hh := (HKB.out wx hx).1
    exact ⟨hh.cell 0 rfl, hh.cell 1 rfl, hh.cell 2 rfl, hh.cell 3 rfl, hh.cell 4 rfl, hh.cell 5 rfl, hh.cell 6 rfl, hh.cell 7 rfl, hh.cell 8 rfl, hh.cell 9 rfl⟩
  have HBd : Hid (Below wb.heap.size wb wb.drew) := (Below.refl _ _).drew
  have s1 := K.out _ HBd.out
  unfold fitP
  simp only [callV]
  generalize pickP c.xid 4294967296 = X0 at *
  generalize pickP c.prog 4294967296 = X1 at *
  generalize pickP c.vers 4294967296 = X2 at *
  generalize pickP c.proc 4294967296 = X3 at *
  generalize autP c.cred = A0 at *
  generalize autP c.verf = A1 at *
  generalize fourP c.args = T at *
  clear hk hk2 hB hB2 hA hP h hz2
  have hza := hz
  clear hz
  go_enter Tryz.func11, Tryz.ntmps11
  go_wp2_with fail
  go_region_held3 (fun w' => w'.cell? ⟨w.heap.size, 0, none⟩ = some (.int .i64 c.xid) ∧ w'.cell? ⟨w.heap.size, 1, none⟩ = some (.int .i64 c.rpc) ∧ w'.cell? ⟨w.heap.size, 2, none⟩ = some (.int .i64 c.prog) ∧ w'.cell? ⟨w.heap.size, 3, none⟩ = some (.int .i64 c.vers) ∧ w'.cell? ⟨w.heap.size, 4, none⟩ = some (.int .i64 c.proc) ∧ w'.cell? ⟨w.heap.size, 5, none⟩ = some (.int .i64 c.cred.flavor) ∧ w'.cell? ⟨w.heap.size, 6, none⟩ = some (.string ⟨c.cred.body.toArray⟩) ∧ w'.cell? ⟨w.heap.size, 7, none⟩ = some (.int .i64 c.verf.flavor) ∧ w'.cell? ⟨w.heap.size, 8, none⟩ = some (.string ⟨c.verf.body.toArray⟩) ∧ w'.cell? ⟨w.heap.size, 9, none⟩ = some (.string ⟨c.args.toArray⟩)) (first | with_reducible exact s1 | with_reducible exact s5 | with_reducible exact s6 | with_reducible exact s7) (first
    | (go_at_call 14
       with_reducible refine (HP0.out _).mono ?_
       rintro e w9 ⟨rfl, hw⟩
       rw [hw]
       clear hw)
    | (go_at_call 14
       with_reducible refine (HP1.out _).mono ?_
       rintro e w9 ⟨rfl, hw⟩
       rw [hw]
       clear hw)
    | (go_at_call 14
       with_reducible refine (HP2.out _).mono ?_
       rintro e w9 ⟨rfl, hw⟩
       rw [hw]
       clear hw)
    | (go_at_call 14
       with_reducible refine (HP3.out _).mono ?_
       rintro e w9 ⟨rfl, hw⟩
       rw [hw]
       clear hw)
    | (go_at_call 33
       with_reducible refine (HA0.out _).mono ?_
       rintro e w5 ⟨rfl, hB5⟩
       have HX5 : Hid (Below wb.heap.size wb w5) := HBd.out.trans (hB5.mono HBd.out.size)
       have s5 := K.out _ HX5.out
       clear hB5)
    | (go_at_call 33
       with_reducible refine (HA1.out _).mono ?_
       rintro e w6 ⟨rfl, hB6⟩
       have HX6 : Hid (Below wb.heap.size wb w6) := HX5.out.trans (hB6.mono HX5.out.size)
       have s6 := K.out _ HX6.out
       have hk6 := (HKB.out _ HX6.out).2.1
       have k0 := hk6.cell 0 rfl
       have f0 := hk6.frozen 0
       have k1 := hk6.cell 1 rfl
       have f1 := hk6.frozen 1
       have k2 := hk6.cell 2 rfl
       have f2 := hk6.frozen 2
       have k3 := hk6.cell 3 rfl
       have f3 := hk6.frozen 3
       have k4 := hk6.cell 4 rfl
       have f4 := hk6.frozen 4
       have k5 := hk6.cell 5 rfl
       have f5 := hk6.frozen 5
       have k6 := hk6.cell 6 rfl
       have f6 := hk6.frozen 6
       have k7 := hk6.cell 7 rfl
       have f7 := hk6.frozen 7
       have k8 := hk6.cell 8 rfl
       have f8 := hk6.frozen 8
       have k9 := hk6.cell 9 rfl
       have f9 := hk6.frozen 9
       have e7 := set10_ne w6 (w.heap.size + 1) w.heap.size (.int .i64 X0) (.int .i64 2) (.int .i64 X1) (.int .i64 X2) (.int .i64 X3) (.int .i64 A0.flavor) (.string ⟨A0.body.toArray⟩) (.int .i64 A1.flavor) (.string ⟨A1.body.toArray⟩) (.string ⟨T.toArray⟩) (by omega)
       have s7 : ((((((((((w6.setCell ⟨w.heap.size + 1, 0, none⟩ (.int .i64 X0)).setCell ⟨w.heap.size + 1, 1, none⟩ (.int .i64 2)).setCell ⟨w.heap.size + 1, 2, none⟩ (.int .i64 X1)).setCell ⟨w.heap.size + 1, 3, none⟩ (.int .i64 X2)).setCell ⟨w.heap.size + 1, 4, none⟩ (.int .i64 X3)).setCell ⟨w.heap.size + 1, 5, none⟩ (.int .i64 A0.flavor)).setCell ⟨w.heap.size + 1, 6, none⟩ (.string ⟨A0.body.toArray⟩)).setCell ⟨w.heap.size + 1, 7, none⟩ (.int .i64 A1.flavor)).setCell ⟨w.heap.size + 1, 8, none⟩ (.string ⟨A1.body.toArray⟩)).setCell ⟨w.heap.size + 1, 9, none⟩ (.string ⟨T.toArray⟩)).cell? ⟨w.heap.size, 0, none⟩ = some (.int .i64 c.xid) ∧ ((((((((((w6.setCell ⟨w.heap.size + 1, 0, none⟩ (.int .i64 X0)).setCell ⟨w.heap.size + 1, 1, none⟩ (.int .i64 2)).setCell ⟨w.heap.size + 1, 2, none⟩ (.int .i64 X1)).setCell ⟨w.heap.size + 1, 3, none⟩ (.int .i64 X2)).setCell ⟨w.heap.size + 1, 4, none⟩ (.int .i64 X3)).setCell ⟨w.heap.size + 1, 5, none⟩ (.int .i64 A0.flavor)).setCell ⟨w.heap.size + 1, 6, none⟩ (.string ⟨A0.body.toArray⟩)).setCell ⟨w.heap.size + 1, 7, none⟩ (.int .i64 A1.flavor)).setCell ⟨w.heap.size + 1, 8, none⟩ (.string ⟨A1.body.toArray⟩)).setCell ⟨w.heap.size + 1, 9, none⟩ (.string ⟨T.toArray⟩)).cell? ⟨w.heap.size, 1, none⟩ = some (.int .i64 c.rpc) ∧ ((((((((((w6.setCell ⟨w.heap.size + 1, 0, none⟩ (.int .i64 X0)).setCell ⟨w.heap.size + 1, 1, none⟩ (.int .i64 2)).setCell ⟨w.heap.size + 1, 2, none⟩ (.int .i64 X1)).setCell ⟨w.heap.size + 1, 3, none⟩ (.int .i64 X2)).setCell ⟨w.heap.size + 1, 4, none⟩ (.int .i64 X3)).setCell ⟨w.heap.size + 1, 5, none⟩ (.int .i64 A0.flavor)).setCell ⟨w.heap.size + 1, 6, none⟩ (.string ⟨A0.body.toArray⟩)).setCell ⟨w.heap.size + 1, 7, none⟩ (.int .i64 A1.flavor)).setCell ⟨w.heap.size + 1, 8, none⟩ (.string ⟨A1.body.toArray⟩)).setCell ⟨w.heap.size + 1, 9, none⟩ (.string ⟨T.toArray⟩)).cell? ⟨w.heap.size, 2, none⟩ = some (.int .i64 c.prog) ∧ ((((((((((w6.setCell ⟨w.heap.size + 1, 0, none⟩ (.int .i64 X0)).setCell ⟨w.heap.size + 1, 1, none⟩ (.int .i64 2)).setCell ⟨w.heap.size + 1, 2, none⟩ (.int .i64 X1)).setCell ⟨w.heap.size + 1, 3, none⟩ (.int .i64 X2)).setCell ⟨w.heap.size + 1, 4, none⟩ (.int .i64 X3)).setCell ⟨w.heap.size + 1, 5, none⟩ (.int .i64 A0.flavor)).setCell ⟨w.heap.size + 1, 6, none⟩ (.string ⟨A0.body.toArray⟩)).setCell ⟨w.heap.size + 1, 7, none⟩ (.int .i64 A1.flavor)).setCell ⟨w.heap.size + 1, 8, none⟩ (.string ⟨A1.body.toArray⟩)).setCell ⟨w.heap.size + 1, 9, none⟩ (.string ⟨T.toArray⟩)).cell? ⟨w.heap.size, 3, none⟩ = some (.int .i64 c.vers) ∧ ((((((((((w6.setCell ⟨w.heap.size + 1, 0, none⟩ (.int .i64 X0)).setCell ⟨w.heap.size + 1, 1, none⟩ (.int .i64 2)).setCell ⟨w.heap.size + 1, 2, none⟩ (.int .i64 X1)).setCell ⟨w.heap.size + 1, 3, none⟩ (.int .i64 X2)).setCell ⟨w.heap.size + 1, 4, none⟩ (.int .i64 X3)).setCell ⟨w.heap.size + 1, 5, none⟩ (.int .i64 A0.flavor)).setCell ⟨w.heap.size + 1, 6, none⟩ (.string ⟨A0.body.toArray⟩)).setCell ⟨w.heap.size + 1, 7, none⟩ (.int .i64 A1.flavor)).setCell ⟨w.heap.size + 1, 8, none⟩ (.string ⟨A1.body.toArray⟩)).setCell ⟨w.heap.size + 1, 9, none⟩ (.string ⟨T.toArray⟩)).cell? ⟨w.heap.size, 4, none⟩ = some (.int .i64 c.proc) ∧ ((((((((((w6.setCell ⟨w.heap.size + 1, 0, none⟩ (.int .i64 X0)).setCell ⟨w.heap.size + 1, 1, none⟩ (.int .i64 2)).setCell ⟨w.heap.size + 1, 2, none⟩ (.int .i64 X1)).setCell ⟨w.heap.size + 1, 3, none⟩ (.int .i64 X2)).setCell ⟨w.heap.size + 1, 4, none⟩ (.int .i64 X3)).setCell ⟨w.heap.size + 1, 5, none⟩ (.int .i64 A0.flavor)).setCell ⟨w.heap.size + 1, 6, none⟩ (.string ⟨A0.body.toArray⟩)).setCell ⟨w.heap.size + 1, 7, none⟩ (.int .i64 A1.flavor)).setCell ⟨w.heap.size + 1, 8, none⟩ (.string ⟨A1.body.toArray⟩)).setCell ⟨w.heap.size + 1, 9, none⟩ (.string ⟨T.toArray⟩)).cell? ⟨w.heap.size, 5, none⟩ = some (.int .i64 c.cred.flavor) ∧ ((((((((((w6.setCell ⟨w.heap.size + 1, 0, none⟩ (.int .i64 X0)).setCell ⟨w.heap.size + 1, 1, none⟩ (.int .i64 2)).setCell ⟨w.heap.size + 1, 2, none⟩ (.int .i64 X1)).setCell ⟨w.heap.size + 1, 3, none⟩ (.int .i64 X2)).setCell ⟨w.heap.size + 1, 4, none⟩ (.int .i64 X3)).setCell ⟨w.heap.size + 1, 5, none⟩ (.int .i64 A0.flavor)).setCell ⟨w.heap.size + 1, 6, none⟩ (.string ⟨A0.body.toArray⟩)).setCell ⟨w.heap.size + 1, 7, none⟩ (.int .i64 A1.flavor)).setCell ⟨w.heap.size + 1, 8, none⟩ (.string ⟨A1.body.toArray⟩)).setCell ⟨w.heap.size + 1, 9, none⟩ (.string ⟨T.toArray⟩)).cell? ⟨w.heap.size, 6, none⟩ = some (.string ⟨c.cred.body.toArray⟩) ∧ ((((((((((w6.setCell ⟨w.heap.size + 1, 0, none⟩ (.int .i64 X0)).setCell ⟨w.heap.size + 1, 1, none⟩ (.int .i64 2)).setCell ⟨w.heap.size + 1, 2, none⟩ (.int .i64 X1)).setCell ⟨w.heap.size + 1, 3, none⟩ (.int .i64 X2)).setCell ⟨w.heap.size + 1, 4, none⟩ (.int .i64 X3)).setCell ⟨w.heap.size + 1, 5, none⟩ (.int .i64 A0.flavor)).setCell ⟨w.heap.size + 1, 6, none⟩ (.string ⟨A0.body.toArray⟩)).setCell ⟨w.heap.size + 1, 7, none⟩ (.int .i64 A1.flavor)).setCell ⟨w.heap.size + 1, 8, none⟩ (.string ⟨A1.body.toArray⟩)).setCell ⟨w.heap.size + 1, 9, none⟩ (.string ⟨T.toArray⟩)).cell? ⟨w.heap.size, 7, none⟩ = some (.int .i64 c.verf.flavor) ∧ ((((((((((w6.setCell ⟨w.heap.size + 1, 0, none⟩ (.int .i64 X0)).setCell ⟨w.heap.size + 1, 1, none⟩ (.int .i64 2)).setCell ⟨w.heap.size + 1, 2, none⟩ (.int .i64 X1)).setCell ⟨w.heap.size + 1, 3, none⟩ (.int .i64 X2)).setCell ⟨w.heap.size + 1, 4, none⟩ (.int .i64 X3)).setCell ⟨w.heap.size + 1, 5, none⟩ (.int .i64 A0.flavor)).setCell ⟨w.heap.size + 1, 6, none⟩ (.string ⟨A0.body.toArray⟩)).setCell ⟨w.heap.size + 1, 7, none⟩ (.int .i64 A1.flavor)).setCell ⟨w.heap.size + 1, 8, none⟩ (.string ⟨A1.body.toArray⟩)).setCell ⟨w.heap.size + 1, 9, none⟩ (.string ⟨T.toArray⟩)).cell? ⟨w.heap.size, 8, none⟩ = some (.string ⟨c.verf.body.toArray⟩) ∧ ((((((((((w6.setCell ⟨w.heap.size + 1, 0, none⟩ (.int .i64 X0)).setCell ⟨w.heap.size + 1, 1, none⟩ (.int .i64 2)).setCell ⟨w.heap.size + 1, 2, none⟩ (.int .i64 X1)).setCell ⟨w.heap.size + 1, 3, none⟩ (.int .i64 X2)).setCell ⟨w.heap.size + 1, 4, none⟩ (.int .i64 X3)).setCell ⟨w.heap.size + 1, 5, none⟩ (.int .i64 A0.flavor)).setCell ⟨w.heap.size + 1, 6, none⟩ (.string ⟨A0.body.toArray⟩)).setCell ⟨w.heap.size + 1, 7, none⟩ (.int .i64 A1.flavor)).setCell ⟨w.heap.size + 1, 8, none⟩ (.string ⟨A1.body.toArray⟩)).setCell ⟨w.heap.size + 1, 9, none⟩ (.string ⟨T.toArray⟩)).cell? ⟨w.heap.size, 9, none⟩ = some (.string ⟨c.args.toArray⟩) := ⟨(cells_of_block e7 0).1.trans s6.1, (cells_of_block e7 1).1.trans s6.2.1, (cells_of_block e7 2).1.trans s6.2.2.1, (cells_of_block e7 3).1.trans s6.2.2.2.1, (cells_of_block e7 4).1.trans s6.2.2.2.2.1, (cells_of_block e7 5).1.trans s6.2.2.2.2.2.1, (cells_of_block e7 6).1.trans s6.2.2.2.2.2.2.1, (cells_of_block e7 7).1.trans s6.2.2.2.2.2.2.2.1, (cells_of_block e7 8).1.trans s6.2.2.2.2.2.2.2.2.1, (cells_of_block e7 9).1.trans s6.2.2.2.2.2.2.2.2.2⟩
       clear hB6 hk6 e7)
    | (go_at_call 34
       with_reducible refine (HF.out _).mono ?_
       rintro e w9 ⟨rfl, hw⟩
       rw [hw]
       clear hw))
  have HK := hid (HKB.out _ HX6.out).2.1
  have HZ9 := HK.out.set10 (.int .i64 X0) (.int .i64 2) (.int .i64 X1) (.int .i64 X2) (.int .i64 X3) (.int .i64 A0.flavor) (.string ⟨A0.body.toArray⟩) (.int .i64 A1.flavor) (.string ⟨A1.body.toArray⟩) (.string ⟨T.toArray⟩)
  have q0 := HZ9.cell 0 rfl
  have q1 := HZ9.cell 1 rfl
  have q2 := HZ9.cell 2 rfl
  have q3 := HZ9.cell 3 rfl
  have q4 := HZ9.cell 4 rfl
  have q5 := HZ9.cell 5 rfl
  have q6 := HZ9.cell 6 rfl
  have q7 := HZ9.cell 7 rfl
  have q8 := HZ9.cell 8 rfl
  have q9 := HZ9.cell 9 rfl
  have HB9 := hid (below_set10 (b := w.heap.size + 1) (HKB.out _ HX6.out).2.2 (by omega) (.int .i64 X0) (.int .i64 2) (.int .i64 X1) (.int .i64 X2) (.int .i64 X3) (.int .i64 A0.flavor) (.string ⟨A0.body.toArray⟩) (.int .i64 A1.flavor) (.string ⟨A1.body.toArray⟩) (.string ⟨T.toArray⟩))
  clear HZ9
  go_wp2
  refine bodyPost_ret (v := .agg #[.int .i64 X0, .int .i64 2, .int .i64 X1, .int .i64 X2, .int .i64 X3, .int .i64 A0.flavor, .string ⟨A0.body.toArray⟩, .int .i64 A1.flavor, .string ⟨A1.body.toArray⟩, .string ⟨T.toArray⟩]) (by simp [results, Tryz.results11, go_sem, q0, q1, q2, q3, q4, q5, q6, q7, q8, q9]) rfl ⟨rfl, HB9.out⟩
end Go.Proofs.YtebjheaohichpaaGreatDoor
namespace Go.Proofs.YtebjheaohichpaaGreatDoor
open Go.RowKit
structure Reply64 (r : ReplyP) : Prop where
  xid : In64 r.xid
  vf : In64 r.verf.flavor
  ac : In64 r.accept
  rj : In64 r.reject
  wh : In64 r.why
  lo : In64 r.low
  hi : In64 r.high
  vb : r.verf.body.length ≤ 140737488355328
  rs : r.results.length ≤ 140737488355328
def tolP (r : ReplyP) : ReplyP :=
  if r.denied then
    if pickP r.reject 2 = 1 then ⟨pickP r.xid 4294967296, true, nulA, 0, 0, 0, [], 1, pickP r.why 15⟩
    else ⟨pickP r.xid 4294967296, true, nulA, 0, pickP r.low 4294967296, pickP r.high 4294967296, [], 0, 0⟩
  else
    if pickP r.accept 6 = 0 then ⟨pickP r.xid 4294967296, false, autP r.verf, 0, 0, 0, fourP r.results, 0, 0⟩
    else if pickP r.accept 6 = 2 then ⟨pickP r.xid 4294967296, false, autP r.verf, 2, pickP r.low 4294967296, pickP r.high 4294967296, [], 0, 0⟩
    else ⟨pickP r.xid 4294967296, false, autP r.verf, pickP r.accept 6, 0, 0, [], 0, 0⟩
theorem tol_may (r : ReplyP) : (tolP r).may := by
  have h2 := pick_range r.reject 2 (by decide)
  have h6 := pick_range r.accept 6 (by decide)
  have h15 := pick_range r.why 15 (by decide)
  unfold tolP
  split
  · split
    · exact ⟨pick_word _, rfl, rfl, rfl, .inr ⟨rfl, rfl, rfl, h15.1, by simp only; omega⟩⟩
    · exact ⟨pick_word _, rfl, rfl, rfl, .inl ⟨rfl, pick_word _, pick_word _, rfl⟩⟩
  · split
    · exact ⟨pick_word _, aut_may _, rfl, rfl, by simp, by simp, .inl ⟨rfl, four_plain _, rfl, rfl⟩⟩
    · split
      · exact ⟨pick_word _, aut_may _, rfl, rfl, by simp, by simp, .inr (.inl ⟨rfl, pick_word _, pick_word _, rfl⟩)⟩
      · rename_i e0 e2
        exact ⟨pick_word _, aut_may _, rfl, rfl, h6.1, by simp only; omega, .inr (.inr ⟨e0, e2, rfl, rfl, rfl⟩)⟩
/-- three blocks: the argument, the result, the reply that is made -/
def Tri (w0 w : World) (n : Nat) (a x : List Value) : Prop :=
  Bk w n a 27 ∧ Bk w (n + 1) [.int .i64 0, .bool false, .int .i64 0, .string ⟨#[]⟩, .int .i64 0, .int .i64 0, .int .i64 0, .int .i64 0, .int .i64 0, .string ⟨#[]⟩] 27 ∧ Bk w (n + 1 + 1) x 27 ∧ Below n w0 w
theorem Tri.below {w0 w w' : World} {n : Nat} {a x : List Value} (h : Tri w0 w n a x) (hB : Below w.heap.size w w') : Tri w0 w' n a x :=
  ⟨h.1.below hB h.1.lt, h.2.1.below hB h.2.1.lt, h.2.2.1.below hB h.2.2.1.lt, h.2.2.2.trans (hB.mono (by have := h.1.lt; omega))⟩
theorem Tri.set {w0 w : World} {n : Nat} {a x : List Value} (h : Tri w0 w n a x) (i : Nat) (v : Value) : Tri w0 (w.setCell ⟨n + 1 + 1, i, none⟩ v) n a (x.set i v) :=
  ⟨h.1.set_ne (by omega) i v, h.2.1.set_ne (by omega) i v, h.2.2.1.set i v, h.2.2.2.setCell (by show n ≤ n + 1 + 1; omega) v⟩
end Go.Proofs.YtebjheaohichpaaGreatDoor
