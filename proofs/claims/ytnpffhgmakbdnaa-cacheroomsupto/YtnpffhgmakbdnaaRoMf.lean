/- raise. -/
import Derived.Test.YtnpffhgmakbdnaaRoMe
import Derived.Maps.RangeWalk
namespace Go.Proofs.Ytnpffhgmakbdnaa
open Go.RowKit
def raiseC (c : Cl) (water : Int) : Cl := if water ≤ c.water then c else { c with water := water, ents := c.ents.filter fun e => decide (water ≤ e.seq) }
/-- while what lies below goes -/
structure RL (w : World) (p : Nat) (g : Cf) (mm : Nat) (c : Cl) (water : Int) (r : Nat) (wr : World) (L rest D : List En) : Prop where
  rg : RG kdE wr c.m r L rest none
  pm : c.ents.Perm (L ++ D)
  out : ∀ e ∈ D, ¬ water ≤ e.seq
  in_ : ∀ e ∈ L, ¬ water ≤ e.seq → e ∈ rest
  blk : wr.heap[c.b]? = some (.cells #[.int .i64 water, .int .i64 (byt g.rs L), .map (some c.m)] 76 (0, 0))
  me : wr.heap[p]? = some (meO g mm)
  ch : Chg [c.b, c.m] [c.b, c.m] w wr
  rn : w.heap.size ≤ r
section
variable {w wr w' : World} {p mm r : Nat} {g : Cf} {c : Cl} {water : Int} {L rest D : List En}
theorem RL.ok (h : RL w p g mm c water r wr L rest D) (hc : ClOk g c) : Ok kdE L := ((okE hc).perm h.pm).sub (List.sublist_append_left _ _)
theorem byt_perm {rs : Nat} {l l2 : List En} (h : l.Perm l2) : byt rs l = byt rs l2 := by
  unfold byt
  induction h with
  | nil => rfl
  | cons x _ ih => simp only [List.map_cons, List.sum_cons, ih]
  | swap x y l => simp only [List.map_cons, List.sum_cons]; omega
  | trans _ _ i1 i2 => exact i1.trans i2
theorem RL.done (h : RL w p g mm c water r wr L [] D) (hn : ¬ water ≤ c.water) : CL wr g (raiseC c water) := by
  have hq : L.Perm (raiseC c water).ents := by
    have h1 := h.pm.filter fun e => decide (water ≤ e.seq)
    rw [List.filter_append] at h1
    have h2 : D.filter (fun e => decide (water ≤ e.seq)) = [] := List.filter_eq_nil_iff.2 fun e he => by simpa using h.out e he
    have h3 : L.filter (fun e => decide (water ≤ e.seq)) = L := List.filter_eq_self.2 fun e he => by
      by_cases q : water ≤ e.seq
      · simpa using q
      · exact absurd (h.in_ e he q) (by simp)
    rw [h2, h3, List.append_nil] at h1
    unfold raiseC
    rw [if_neg hn]
    exact h1.symm
  refine ⟨?_, ?_⟩
  · rw [clO, ← byt_perm hq]
    unfold raiseC
    rw [if_neg hn]
    exact h.blk
  · have := h.rg.mm.perm hq
    unfold raiseC at this ⊢
    rw [if_neg hn] at this ⊢
    exact this
end
theorem wrap64_is (x : Int) : wrap64 x = IntKind.i64.wrap x := by unfold wrap64; exact (IntKind.wrap_i64 x).symm
theorem rl_left {w : World} {m r k : Nat} {L rest rest' : List En} {x : En} {cur : Option En} (h : RG kdE w m r L rest' cur) (hp : rest.Perm (x :: rest')) (hk : k = rest.length) : leftN w m r < k := by
  rw [h.left, hk, hp.length_eq]
  simp
theorem RL.rb {w wr : World} {p mm r : Nat} {g : Cf} {c : Cl} {water : Int} {L rest D : List En} (h : RL w p g mm c water r wr L rest D) : r ≠ c.b ∧ r ≠ p := by
  obtain ⟨es, k, s, q, c0, h1, h2, _⟩ := h.rg
  refine ⟨fun e => ?_, fun e => ?_⟩
  · have := h.blk
    rw [← e, h2] at this
    cases this
  · have := h.me
    rw [← e, h2] at this
    cases this
theorem ty_of_mem {α : Type} {x : α} {l : List α} (h : x ∈ l) : ∃ A B, l = A ++ x :: B := by
  obtain ⟨A, B, h⟩ := List.append_of_mem h
  exact ⟨A, B, h⟩
theorem raise_any {w : World} {p mm : Nat} {g : Cf} {c : Cl} {water : Int} (hp : w.heap[p]? = some (meO g mm)) (hg : CfOk g) (h : CL w g c) (hc : ClOk g c) :
    Calls Try.prog 32 #[ptr p, ptr c.b, .int .i64 water] w fun e w' => e = .returned (.tuple #[]) ∧ CL w' g (raiseC c water) ∧ Chg [c.b, c.m] [c.b, c.m] w w' := by
  by_cases hle : water ≤ c.water
  · have h0 := cl0 h.blk
    have HR : Hid (CL w g (raiseC c water)) := by
      unfold raiseC
      rw [if_pos hle]
      exact h
    have HC := hid (Chg.refl [c.b, c.m] w)
    have hd : decide (water ≤ c.water) = true := by simpa using hle
    clear h hc hg hp hle
    generalize c.water = cw at *
    generalize c.b = cb at *
    go_enter Try.func32, Try.ntmps32
    go_wp2
    (try simp only [Exit.inBlock, Exit.then])
    refine bodyPost_ret (results_none rfl _ _ _) rfl ?_
    exact ⟨rfl, HR.out, HC.out⟩
  · have h0 := cl0 h.blk
    have f0 := clf h.blk 0
    have hd : decide (water ≤ c.water) = false := by simpa using hle
    have hpb := h.pb hp
    obtain ⟨w1, hw1⟩ : ∃ w1, w.setCell ⟨c.b, 0, none⟩ (.int .i64 water) = w1 := ⟨_, rfl⟩
    have b1 : w1.heap[c.b]? = some (.cells #[.int .i64 water, .int .i64 (byt g.rs c.ents), .map (some c.m)] 76 (0, 0)) := by rw [← hw1]; exact set0 h.blk water
    have m1 : MM kdE w1 c.m c.ents := h.mp.kept (by rw [← hw1]; exact Below.heap_setCell _ _ _ _ (fun e => h.ne e.symm))
    have p1 : w1.heap[p]? = some (meO g mm) := by rw [← hw1]; exact (Below.heap_setCell _ _ _ _ hpb.1).trans hp
    have x2 : w1.cell? ⟨c.b, 2, none⟩ = some (.map (some c.m)) := by unfold World.cell?; rw [b1]; rfl
    obtain ⟨w2, hr, hrg, hB⟩ := m1.range
    have hr' : (Instr.range 74 (.map (some c.m))).run Try.prog w1 = .ok (ptr w1.heap.size) w2 := hr
    have hsz : w1.heap.size = w.heap.size := by rw [← hw1]; simp
    rw [hsz] at hr' hrg hB
    have hl := h.lt
    have hlp : p < w.heap.size := (Array.getElem?_eq_some_iff.1 hp).1
    have HR : Hid (RL w p g mm c water w.heap.size w2 c.ents c.ents []) := ⟨hrg, by simp, by simp, fun e he _ => he, (hB.block _ hl.1).trans b1, (hB.block _ hlp).trans p1, by
      rw [← hsz] at hB
      exact (hw1 ▸ Chg.set w ⟨c.b, 0, none⟩ (.int .i64 water) (by simp) : Chg [c.b, c.m] [c.b, c.m] w w1).trans (Chg.of_below _ hB), Nat.le_refl _⟩
    have HC := hid hc
    have HG := hid hg
    have HN := hid hle
    have HNE := hid (And.intro h.ne hpb)
    obtain ⟨r0, hr0⟩ : ∃ r0, w.heap.size = r0 := ⟨_, rfl⟩
    rw [hr0] at hr' HR
    have HS := hid hr0
    clear h hc hg hp hle hpb b1 m1 p1 hr hrg hB hsz hl hlp hr0
    generalize hcb : c.b = cb at *
    generalize hcm : c.m = cm at *
    have HCB := hid (And.intro hcb hcm)
    clear hcb hcm
    go_enter Try.func32, Try.ntmps32
    go_wp2

    go_loopw [23] (fun _ wr => ∃ L rest D, RL w p g mm c water r0 wr L rest D) (fun _ wr => leftN wr cm r0)
    case atStart => exact ⟨_, _, _, HR.out⟩
    case round =>
      obtain ⟨L, rest, D, hrl⟩ := hrel
      have HL := hid hrl
      clear hrl
      rcases HL.out.rg.next with ⟨rfl, hn⟩ | ⟨x, rest', w3, hpm, hxL, hn, hrg, ho⟩
      · have HE := hid (HL.out.done (Int.not_le.2 HN.out))
        have HQ := hid HL.out.ch
        rw [HCB.out.1, HCB.out.2] at HQ
        clear HL HR
        go_wp2
        go_end0
        exact ⟨rfl, HE.out, HQ.out⟩
      · obtain ⟨q, ans, rep⟩ := x
        have hen := hrg.entry
        have hen' : (Instr.entry (ptr r0)).run Try.prog w3 = .ok (.tuple #[.int .i64 q, .agg #[.bool ans, .string rep]]) w3 := hen
        have hn' : ∀ ty, (Instr.next (ptr r0) false ty).run Try.prog wr = .ok (.tuple #[.bool true, .int .i64 q, .agg #[.bool ans, .string rep]]) w3 := hn
        obtain ⟨w4, hw4⟩ : ∃ w4, w3.alloc (.cells #[.bool ans, .string rep] 79) = w4 := ⟨_, rfl⟩
        obtain ⟨N3, hN3⟩ : ∃ N3, w3.heap.size = N3 := ⟨_, rfl⟩
        have hrb := HL.out.rb
        have hlm := HL.out.rg.mm.lt
        have hlr := HL.out.rg.lt.1
        have hlb : c.b < wr.heap.size := (Array.getElem?_eq_some_iff.1 HL.out.blk).1
        have hlp : p < wr.heap.size := (Array.getElem?_eq_some_iff.1 HL.out.me).1
        have s3 := ho.size
        have B4 : Below w3.heap.size w3 w4 := by rw [← hw4]; exact below_box _ _
        have k4 : w4.heap[N3]? = some (.cells #[.bool ans, .string rep] 79) := by rw [← hw4, ← hN3]; exact (MapKept.heap_alloc w3 _).1
        have rg4 : RG kdE w4 c.m r0 L rest' (some ⟨q, ans, rep⟩) := hrg.kept (B4.block _ (by omega)) (B4.block _ (by omega))
        have b4 := (B4.block c.b (by omega)).trans ((ho.kept c.b (fun e => hrb.1 e.symm)).trans HL.out.blk)
        have p4 := (B4.block p (by omega)).trans ((ho.kept p (fun e => hrb.2 e.symm)).trans HL.out.me)
        have hrn := HL.out.rn
        have sz4 := HL.out.ch.size
        have ch4 : Chg [c.b, c.m] [c.b, c.m] w w4 :=
          ⟨B4.os.trans (ho.os.trans HL.out.ch.os), B4.tape.trans (ho.tape.trans HL.out.ch.tape), B4.output.trans (ho.output.trans HL.out.ch.output), Nat.le_trans (by omega) B4.size,
            fun x hx hF => (B4.block x (by omega)).trans ((ho.kept x (by omega)).trans (HL.out.ch.kept x hx hF)), fun _ h => .inl h⟩
        clear hn hen
        by_cases hq : q < water
        · have d1 : decide (q < water) = true := by simpa using hq
          obtain ⟨A, B, rfl⟩ := ty_of_mem hxL
          obtain ⟨bn, hbn⟩ : ∃ bn, byt g.rs (A ++ ⟨q, ans, rep⟩ :: B) = bn := ⟨_, rfl⟩
          obtain ⟨zn, hzn⟩ : ∃ zn, sz g.rs ⟨q, ans, rep⟩ = zn := ⟨_, rfl⟩
          have hsum : bn = zn + byt g.rs (A ++ B) := by
            rw [← hbn, byt_perm (List.perm_middle (a := (⟨q, ans, rep⟩ : En)) (l₁ := A) (l₂ := B)), ← hzn]
            simp [byt]
          have hmax : bn ≤ 70400 := by
            have h1 := HC.out.byt_le HG.out
            rw [byt_perm HL.out.pm, byt_app, hbn] at h1
            omega
          have hsub : IntKind.i64.wrap ((bn : Int) - (zn : Int)) = ((byt g.rs (A ++ B) : Nat) : Int) := by rw [← wrap64_is]; unfold wrap64; omega
          have HSU := hid hsub
          clear hsub
          rw [hbn] at b4
          have x1 : w4.cell? ⟨c.b, 1, none⟩ = some (.int .i64 bn) := by unfold World.cell?; rw [b4]; rfl
          have y0 : w4.cell? ⟨N3, 0, none⟩ = some (.bool ans) := by unfold World.cell?; rw [k4]; rfl
          have y1 : w4.cell? ⟨N3, 1, none⟩ = some (.string rep) := by unfold World.cell?; rw [k4]; rfl
          have HZ : Hid (∀ i, Calls Try.prog 42 #[ptr p, .agg #[.bool ans, .string rep]] (w4.drewN i) fun r w' => r = .returned (.int .i64 (zn : Int)) ∧ Below w4.heap.size (w4.drewN i) w') := fun i => by
            have h9 := size_any (w := w4.drewN i) (g := g) (mm := mm) (p := p) p4 ⟨q, ans, rep⟩
            rw [hzn] at h9
            exact h9
          have HEnd : Hid (∀ i w5, Below w4.heap.size (w4.drewN i) w5 → ∃ w7, (∀ ty, (Builtin.delete_ #[74, 3] ty #[.map (some c.m), .int .i64 q]).run Try.prog (w5.setCell ⟨c.b, 1, none⟩ (.int .i64 (byt g.rs (A ++ B) : Nat))) = .ok (.tuple #[]) w7) ∧
              w5.cell? ⟨c.b, 1, none⟩ = some (.int .i64 bn) ∧ w5.frozen? ⟨c.b, 1, none⟩ = false ∧ w5.cell? ⟨N3, 0, none⟩ = some (.bool ans) ∧ w5.cell? ⟨N3, 1, none⟩ = some (.string rep) ∧ (w5.setCell ⟨c.b, 1, none⟩ (.int .i64 (byt g.rs (A ++ B) : Nat))).cell? ⟨c.b, 2, none⟩ = some (.map (some c.m)) ∧ RL w p g mm c water r0 w7 (A ++ B) rest' (⟨q, ans, rep⟩ :: D)) := by
            intro i w5 hB5
            have hb5 : w5.heap[c.b]? = _ := (hB5.block c.b (by have := B4.size; omega)).trans b4
            have hb6 : (w5.setCell ⟨c.b, 1, none⟩ (.int .i64 (byt g.rs (A ++ B) : Nat))).heap[c.b]? = some (.cells #[.int .i64 water, .int .i64 (byt g.rs (A ++ B) : Nat), .map (some c.m)] 76 (0, 0)) := by unfold World.setCell; simp [Array.getElem?_modify, hb5]
            have s4 := B4.size
            have hmb : c.m ≠ c.b := fun e => by rw [HCB.out.1, HCB.out.2] at e; exact HNE.out.1 e.symm
            have o6 : ∀ x, x ≠ c.b → x < w4.heap.size → (w5.setCell ⟨c.b, 1, none⟩ (.int .i64 (byt g.rs (A ++ B) : Nat))).heap[x]? = w4.heap[x]? := fun x hx hl => (Below.heap_setCell _ _ _ _ hx).trans (hB5.block x hl)
            have rg6 := rg4.kept (w' := w5.setCell ⟨c.b, 1, none⟩ (.int .i64 (byt g.rs (A ++ B) : Nat))) (o6 _ hmb (by omega)) (o6 _ hrb.1 (by omega))
            obtain ⟨w7, e1, e2, e3⟩ := rg6.drop (HL.out.ok HC.out)
            have hbm : c.b ≠ c.m := fun e => hmb e.symm
            refine ⟨w7, e1, ?_, ?_, ?_, ?_, ?_, ⟨e2, ?_, ?_, ?_, (e3.kept _ hbm).trans hb6, (e3.kept p ?_).trans ((o6 p ?_ (by omega)).trans p4), ?_, HL.out.rn⟩⟩
            · unfold World.cell?; rw [hb5]; rfl
            · unfold World.frozen?; rw [hb5]; rfl
            · exact (World.cell?_of_block (a := ⟨N3, 0, none⟩) (hB5.block N3 (Array.getElem?_eq_some_iff.1 k4).1)).trans y0
            · exact (World.cell?_of_block (a := ⟨N3, 1, none⟩) (hB5.block N3 (Array.getElem?_eq_some_iff.1 k4).1)).trans y1
            · unfold World.cell?; rw [hb6]; rfl
            · refine HL.out.pm.trans ?_
              simp only [List.append_assoc, List.cons_append]
              exact List.Perm.append_left A (List.perm_middle.symm)
            · intro e he
              rcases List.mem_cons.1 he with h | h
              · rw [h]; exact Int.not_le.2 hq
              · exact HL.out.out e h
            · intro e he hne
              rcases List.mem_cons.1 (hpm.mem_iff.1 (HL.out.in_ e (by rcases List.mem_append.1 he with h | h <;> simp [h]) hne)) with h | h
              · exfalso
                have hnd := (HL.out.ok HC.out).nd
                rw [List.map_append, List.map_cons] at hnd
                have h1 := (List.perm_middle.nodup_iff.1 hnd)
                refine (List.nodup_cons.1 h1).1 ?_
                rw [← List.map_append]
                exact List.mem_map.2 ⟨e, he, by rw [h]⟩
              · exact h
            · exact fun e => HNE.out.2.2 (by rw [← HCB.out.2]; exact e)
            · exact fun e => HNE.out.2.1 (by rw [← HCB.out.1]; exact e)
            · refine ch4.trans (Chg.trans (b := w5) (Chg.of_below (w := w4) _ ⟨hB5.os, hB5.tape, hB5.output, hB5.size, hB5.block⟩) ((Chg.set _ _ _ (by simp)).trans (e3.chg (by simp))))
          have HPM := hid hpm
          have HLL := hid HL.out.rg.left
          clear hrn sz4 hrb hlm hlr hlb hlp s3 B4 k4 rg4 b4 p4 ch4 hpm hxL hrg ho HL HR hbn hzn hsum hmax
          rw [HCB.out.1] at x1
          rw [HCB.out.1, HCB.out.2] at HEnd
          go_wp2_with fail
          rename_i K0 a0
          have A0 : Hid (∀ a w, _ → K0 a w) := a0
          clear a0
          go_region_with (first
            | (go_at_call 42
               refine (HZ.out _).mono ?_
               rintro e w5 ⟨rfl, hB5⟩
               obtain ⟨w7, e1, e2, e3, e4, e5, e6, e7⟩ := HEnd.out _ w5 hB5
               have HE7 := hid e7
               clear e7 hB5))
          all_goals (
            rw [HSU.out]
            have a0 := A0.out
            clear A0
            have HM : Hid (leftN w7 cm r0 < leftN wr cm r0) := by have := rl_left HE7.out.rg HPM.out HLL.out; rwa [HCB.out.2] at this
            go_wp2
            go_roundw
            case rel => exact ⟨_, _, _, HE7.out⟩
            case measure => exact HM.out)
        · have d1 : decide (q < water) = false := by simpa using hq
          have HE : Hid (RL w p g mm c water r0 w4 L rest' D) := ⟨by obtain ⟨a1, a2, a3, a4, a5, a6, a7, a8, a9, a10, a11, a12, a13, _⟩ := rg4; exact ⟨a1, a2, a3, a4, a5, a6, a7, a8, a9, a10, a11, a12, a13, fun x hx => by cases hx⟩, HL.out.pm, HL.out.out, fun e he hne => by
            rcases List.mem_cons.1 (hpm.mem_iff.1 (HL.out.in_ e he hne)) with h | h
            · subst h; exact absurd (Int.not_lt.1 hq) hne
            · exact h, b4, p4, ch4, HL.out.rn⟩
          have HM : Hid (leftN w4 cm r0 < leftN wr cm r0) := by have := rl_left HE.out.rg hpm HL.out.rg.left; rwa [HCB.out.2] at this
          clear hrn sz4 hrb hlm hlr hlb hlp s3 B4 k4 rg4 b4 p4 ch4 hpm hxL hrg ho
          go_wp2
          go_roundw
          case rel => exact ⟨_, _, _, HE.out⟩
          case measure => exact HM.out
end Go.Proofs.Ytnpffhgmakbdnaa
