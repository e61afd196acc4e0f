/- ShelfPlays: one call of both: lemmas. -/
import Derived.Test.YtkkamilmjaochaaPBy
import Derived.Test.YtkkamilmjaochaaPBu
namespace Go.Proofs.Ytkkamilmjaochaa
open Go.RowKit
def TZ (β : Nat) (t : Nat) : Prop := TQ β t ∨ t = 1 ∨ t = 6 ∨ t = 7
def BKx (K : Nat → Nat) (w : World) (B bb N n : Nat) : Prop := ∃ vf vw va FL WL AL, BK K w B bb N vf vw va FL WL AL ∧ FL.length = n
theorem BKx.mv {T : Nat → Prop} {K K' : Nat → Nat} {w w' : World} {B bb N n : Nat} (h : BKx K w B bb N n) (m : Mv T w w' K K') (ht : ∀ t, T t → ¬ TO t ∧ t ≠ 2) : BKx K' w' B bb N n := by
  obtain ⟨vf, vw, va, FL, WL, AL, h1, h2⟩ := h
  exact ⟨vf, vw, va, FL, WL, AL, h1.mv m ht, h2⟩
/-- while a step goes on -/
structure SP (K0 : Nat → Nat) (w0 : World) (K : Nat → Nat) (w : World) (B β y p m r x most : Nat) (L D : List Pr) (S0 : Nat) (o : OpP) (bb N n : Nat) : Prop where
  sd : ∃ A W va vw, SD K w B β y p m r x most L D A W va vw
  bo : TB K w (β + 16) S0 (opB o)
  bk : BKx K w B bb N n
  hβ : 100 ≤ β ∧ β ≤ 900
  mv : Mv (TZ β) w0 w K0 K
section
variable {K0 K K' : Nat → Nat} {w0 w w' : World} {B β y p m r x most : Nat} {L D : List Pr} {S0 : Nat} {o : OpP} {bb N n : Nat}
theorem SP.hB (h : SP K0 w0 K w B β y p m r x most L D S0 o bb N n) : B ≤ w.heap.size := by obtain ⟨_, _, _, _, _, _, h1, _⟩ := h.bk; exact h1.hB
theorem SP.to {T : Nat → Prop} (h : SP K0 w0 K w B β y p m r x most L D S0 o bb N n) (mv : Mv T w w' K K') (ht : ∀ t, ¬ T t) : SP K0 w0 K' w' B β y p m r x most L D S0 o bb N n := by
  obtain ⟨A, W, va, vw, sd⟩ := h.sd
  exact ⟨⟨A, W, va, vw, sd.mv mv (ht _) (ht _) (ht _) (ht _) (ht _) (ht _)⟩, h.bo.mv mv (ht _), h.bk.mv mv (fun t h => (ht t h).elim), h.hβ, h.mv.trans (mv.mono (fun t h => (ht t h).elim))⟩
theorem SP.cs (h : SP K0 w0 K w B β y p m r x most L D S0 o bb N n) : w.cell? ⟨y, 0, none⟩ = some (ptr p) ∧ w.cell? ⟨y, 1, none⟩ = some (ptr x) ∧ w.cell? ⟨S0, 2, none⟩ = some (.string o.k.s) ∧ w.cell? ⟨S0, 3, none⟩ = some (.int .i64 o.k.n) ∧ w.cell? ⟨S0, 4, none⟩ = some (.int .i64 o.v) := by
  obtain ⟨A, W, va, vw, sd⟩ := h.sd
  refine ⟨sd.y0, sd.y1, ?_⟩
  unfold World.cell?
  rw [h.bo.at_]
  exact ⟨rfl, rfl, rfl⟩
theorem SP.op (h : SP K0 w0 K w B β y p m r x most L D S0 o bb N n) : w.cell? ⟨S0, 0, none⟩ = some (.int .i64 o.kd) ∧ w.cell? ⟨S0, 1, none⟩ = some (.int .i64 o.on) ∧ w.cell? ⟨S0, 5, none⟩ = some (.int .i64 o.n) ∧ w.cell? ⟨S0, 6, none⟩ = some (.int .i64 o.m) := by
  unfold World.cell?
  rw [h.bo.at_]
  exact ⟨rfl, rfl, rfl, rfl⟩
theorem SP.mm (h : SP K0 w0 K w B β y p m r x most L D S0 o bb N n) : ND L ∧ L.length ≤ most ∧ most ≤ 1048576 := by
  obtain ⟨A, W, va, vw, sd⟩ := h.sd
  obtain ⟨Lt, e1, ts⟩ := sd.sh
  subst e1
  exact ⟨ts.sh.nd', by rw [prs_len]; exact ts.sh.len, ts.sh.m20⟩
theorem SP.side {T : Nat → Prop} {L' D' : List Pr} (h : SP K0 w0 K w B β y p m r x most L D S0 o bb N n) (mv : Mv T w w' K K') (ht : ∀ t, T t → TQ β t) (hs : ∃ A W va vw, SD K' w' B β y p m r x most L' D' A W va vw) : SP K0 w0 K' w' B β y p m r x most L' D' S0 o bb N n :=
  have hβ := h.hβ
  ⟨hs, h.bo.mv mv (fun e => by have := ht _ e; unfold TQ at this; omega), h.bk.mv mv (fun t e => by have := ht _ e; unfold TQ at this; unfold TO; omega), h.hβ, h.mv.trans (mv.mono (fun t e => .inl (ht t e)))⟩
theorem SP.shelf {L' : List Pr} {Lt Lt' : List (Th KeyP Int)} {A W : List As} {va vw : Value} (h : SP K0 w0 K w B β y p m r x most L D S0 o bb N n) (sd : SD K w B β y p m r x most L D A W va vw) (ts : TS kdK K w (β + 3) p most m r Lt) (e : prs Lt' = L') (s : SH kdK w' p most m r Lt') (c : Chg (foot p m r Lt) (foot p m r Lt') w w') : ∃ K', SP K0 w0 K' w' B β y p m r x most L' D S0 o bb N n := by
  obtain ⟨K', ts', mv⟩ := ts.chg s c
  exact ⟨K', h.side mv (fun t h => by unfold TQ; omega) ⟨A, W, va, vw, sd.shelf mv (fun _ h => h) ⟨Lt', e, ts'⟩⟩⟩
theorem SP.put (h : SP K0 w0 K w B β y p m r x most L D S0 o bb N n) (hk : KOk o.k) : Calls Try.prog 39 #[ptr p, keyV o.k, .int .i64 o.v] w fun e w' => e = .returned (.int .i64 (putC most L o.k)) ∧ Hid (∃ K', SP K0 w0 K' w' B β y p m r x most (putL most L o.k o.v) D S0 o bb N n) := by
  obtain ⟨A, W, va, vw, sd⟩ := h.sd
  obtain ⟨Lt, e1, ts⟩ := sd.sh
  refine (putK_any ts.sh o.k hk o.v).mono ?_
  rintro _ w' ⟨rfl, L', e2, s, c⟩
  rw [e1] at e2 ⊢
  exact ⟨rfl, h.shelf sd ts e2 s c⟩
theorem SP.drop (h : SP K0 w0 K w B β y p m r x most L D S0 o bb N n) (hk : KOk o.k) : Calls Try.prog 43 #[ptr p, keyV o.k] w fun e w' => e = .returned (.int .i64 (dropC L o.k)) ∧ Hid (∃ K', SP K0 w0 K' w' B β y p m r x most (dropL L o.k) D S0 o bb N n) := by
  obtain ⟨A, W, va, vw, sd⟩ := h.sd
  obtain ⟨Lt, e1, ts⟩ := sd.sh
  refine (dropK_any ts.sh o.k hk).mono ?_
  rintro _ w' ⟨rfl, L', e2, s, c⟩
  rw [e1] at e2 ⊢
  exact ⟨rfl, h.shelf sd ts e2 s c⟩
theorem SP.get (h : SP K0 w0 K w B β y p m r x most L D S0 o bb N n) (k : KeyP) (hk : KOk k) : Calls Try.prog 41 #[ptr p, keyV k] w fun e w' => e = .returned (.tuple #[.int .i64 (getL L k), .bool (hasK L k)]) ∧ Hid (∃ K', SP K0 w0 K' w' B β y p m r x most L D S0 o bb N n ∧ Mv (fun _ => False) w w' K K') := by
  obtain ⟨A, W, va, vw, sd⟩ := h.sd
  obtain ⟨Lt, e1, ts⟩ := sd.sh
  refine (getK_any ts.sh k hk).mono ?_
  rintro _ w' ⟨rfl, hb⟩
  rw [e1]
  exact ⟨rfl, _, h.to (Mv.of_below hb K (fun _ => 3)) (fun _ => id), Mv.of_below hb K (fun _ => 3)⟩
theorem SP.dput (h : SP K0 w0 K w B β y p m r x most L D S0 o bb N n) (hd : ND D ∧ D.length ≤ most) : Calls Try.prog 40 #[ptr x, keyV o.k, .int .i64 o.v] w fun e w' => e = .returned (.int .i64 (putC most D o.k)) ∧ Hid (∃ K', SP K0 w0 K' w' B β y p m r x most L (putL most D o.k o.v) S0 o bb N n) := by
  obtain ⟨A, W, va, vw, sd⟩ := h.sd
  obtain ⟨vd, ds⟩ := sd.ds
  have hm := h.mm
  refine (dput_any ds h.hB hm.2.2 (by omega) o.k o.v).mono ?_
  rintro _ w' ⟨cc, D2, K', v', rfl, hr, hds, mv⟩
  obtain ⟨rfl, rfl⟩ := putR_is hr hd.1
  exact ⟨rfl, K', h.side mv (fun t h => by unfold T2 at h; unfold TQ; omega) ⟨A, W, va, vw, sd.docs mv (fun t h => h) ⟨v', hds⟩⟩⟩
theorem SP.ddrop (h : SP K0 w0 K w B β y p m r x most L D S0 o bb N n) (hd : ND D ∧ D.length ≤ most) : Calls Try.prog 44 #[ptr x, keyV o.k] w fun e w' => e = .returned (.int .i64 (dropC D o.k)) ∧ Hid (∃ K', SP K0 w0 K' w' B β y p m r x most L (dropL D o.k) S0 o bb N n) := by
  obtain ⟨A, W, va, vw, sd⟩ := h.sd
  obtain ⟨vd, ds⟩ := sd.ds
  have hm := h.mm
  refine (ddrop_any ds h.hB (by omega) o.k).mono ?_
  rintro _ w' ⟨cc, D2, K', v', rfl, hr, hds, mv⟩
  obtain ⟨rfl, rfl⟩ := dropR_is hr hd.1
  exact ⟨rfl, K', h.side mv (fun t h => by unfold T2 at h; unfold TQ; omega) ⟨A, W, va, vw, sd.docs mv (fun t h => h) ⟨v', hds⟩⟩⟩
theorem SP.dget (h : SP K0 w0 K w B β y p m r x most L D S0 o bb N n) (hd : ND D ∧ D.length ≤ most) (k : KeyP) : Calls Try.prog 42 #[ptr x, keyV k] w fun e w' => e = .returned (.tuple #[.int .i64 (getL D k), .bool (hasK D k)]) ∧ Hid (∃ K', SP K0 w0 K' w' B β y p m r x most L D S0 o bb N n ∧ Mv (fun _ => False) w w' K K') := by
  obtain ⟨A, W, va, vw, sd⟩ := h.sd
  obtain ⟨vd, ds⟩ := sd.ds
  have hm := h.mm
  refine (dget_any ds (by omega) k).mono ?_
  rintro _ w' ⟨u, b, rfl, hr, hb⟩
  obtain ⟨rfl, rfl⟩ := getP_is hr hd.1
  exact ⟨rfl, _, h.to (Mv.of_below hb K (fun _ => 3)) (fun _ => id), Mv.of_below hb K (fun _ => 3)⟩
theorem SP.prune (h : SP K0 w0 K w B β y p m r x most L L S0 o bb N n) (ho : I64 o.m ∧ I64 o.n) (hV : VOk L) : Calls Try.prog 48 #[ptr y, opV o] w fun e w' => e = .returned (.bool true) ∧ Hid (∃ K', SP K0 w0 K' w' B β y p m r x most (pruL most o L) (pruL most o L) S0 o bb N n) := by
  obtain ⟨A, W, va, vw, sd⟩ := h.sd
  refine (prunes_any sd h.hB o ho hV).mono ?_
  rintro _ w' ⟨rfl, K', A', W', va', vw', sd', mv⟩
  exact ⟨rfl, K', h.side mv (fun t h => h) ⟨A', W', va', vw', sd'⟩⟩
theorem SP.keys (h : SP K0 w0 K w B β y p m r x most L D S0 o bb N n) (t : Nat) : Calls Try.prog 45 #[ptr p] w fun e w' => ∃ s : Sl, e = .returned (.slice s.oa s.n s.c) ∧ Hid (∃ K', SP K0 w0 K' w' B β y p m r x most L D S0 o bb N n ∧ RW 32 2 kcK K' w' B t (slV s) (L.map Pr.k) ∧ Mv (fun _ => False) w w' K K') := by
  obtain ⟨A, W, va, vw, sd⟩ := h.sd
  obtain ⟨Lt, e1, ts⟩ := sd.sh
  refine (keysK_any ts.sh).mono ?_
  rintro _ w' ⟨g, cap, rfl, hown, hb⟩
  refine ⟨⟨some ⟨g, 0, none⟩, Lt.length, cap⟩, rfl, ext w K (fun _ => t), h.to (Mv.of_below hb K (fun _ => t)) (fun _ => id), ⟨?_, fun g' hg' => ?_⟩, Mv.of_below hb K (fun _ => t)⟩
  · rw [← e1, prs_keys, List.length_map]
    exact own_mono hown h.hB
  · cases hg'
    exact ext_new (hown.lt g rfl).1
theorem SP.dkeys (h : SP K0 w0 K w B β y p m r x most L D S0 o bb N n) (hd : D.length ≤ most) (t : Nat) : Calls Try.prog 46 #[ptr x] w fun e w' => ∃ s : Sl, e = .returned (.slice s.oa s.n s.c) ∧ Hid (∃ K', SP K0 w0 K' w' B β y p m r x most L D S0 o bb N n ∧ RW 32 2 kcK K' w' B t (slV s) (D.map Pr.k) ∧ Mv (fun _ => False) w w' K K') := by
  obtain ⟨A, W, va, vw, sd⟩ := h.sd
  obtain ⟨vd, ds⟩ := sd.ds
  have hm := h.mm
  refine (dkeys_any ds (by omega)).mono ?_
  rintro _ w' ⟨v, rfl, hown, hb⟩
  have hrw : RW 32 2 kcK (ext w K (fun _ => t)) w' B t v (D.map Pr.k) := ⟨by rw [List.length_map]; exact own_mono hown h.hB, fun g' hg' => ext_new (hown.lt g' hg').1⟩
  obtain ⟨oa, c, e, _, _⟩ := hrw.form
  subst e
  exact ⟨⟨oa, (D.map Pr.k).length, c⟩, rfl, ext w K (fun _ => t), h.to (Mv.of_below hb K (fun _ => t)) (fun _ => id), hrw, Mv.of_below hb K (fun _ => t)⟩
/-- the book has two lists more -/
theorem SP.book {vf vw va : Value} {FL WL AL : List Sl} (h : SP K0 w0 K w B β y p m r x most L D S0 o bb N n) (mv : Mv (fun t => t = 1 ∨ t = 6 ∨ t = 7) w w' K K') (hb : BK K' w' B bb N vf vw va FL WL AL) (hl : FL.length = n + 1) : SP K0 w0 K' w' B β y p m r x most L D S0 o bb N (n + 1) := by
  have hβ := h.hβ
  obtain ⟨A, W, va, vw, sd⟩ := h.sd
  exact ⟨⟨A, W, va, vw, sd.mv mv (by omega) (by omega) (by omega) (by omega) (by omega) (by omega)⟩, h.bo.mv mv (by omega), ⟨_, _, _, FL, WL, AL, hb, hl⟩, h.hβ, h.mv.trans (mv.mono (fun t e => .inr e))⟩
end
/-- what a step makes of a shelf -/
def opL (most : Nat) (o : OpP) (L : List Pr) : List Pr := if o.kd = 1 then putL most L o.k o.v else if o.kd = 3 then dropL L o.k else if o.kd = 5 then pruL most o L else L
theorem v_pru {L : List Pr} (h : VOk L) (most : Nat) (o : OpP) : VOk (pruL most o L) := v_takes _ _ (stL_v h _)
end Go.Proofs.Ytkkamilmjaochaa
