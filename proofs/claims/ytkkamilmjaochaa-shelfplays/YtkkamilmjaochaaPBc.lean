/- The document's shelf: Put. -/
import Derived.Test.YtkkamilmjaochaaPBb
namespace Go.Proofs.Ytkkamilmjaochaa
open Go.RowKit
def T2 (t : Nat) : Nat → Prop := fun y => y = t ∨ y = t + 1
theorem bld159 (w : World) (s : ByteArray) (n v : Int) : (Instr.build 159 #[(0, .agg #[.string s, .int .i64 n]), (1, .int .i64 v)]).run Try.prog w = .ok (.agg #[.string s, .int .i64 n, .int .i64 v]) w := by kernel_rfl
theorem bls103 (w : World) (s : ByteArray) (n v : Int) : (Instr.buildSlice 103 1 #[(0, .agg #[.string s, .int .i64 n, .int .i64 v])]).run Try.prog w = .ok (.slice (some ⟨w.heap.size, 0, none⟩) 1 1) (w.alloc (.cells #[.string s, .int .i64 n, .int .i64 v] 159)) := by kernel_rfl
inductive PutR (most : Nat) (L : List Pr) (k : KeyP) (v : Int) : Int → List Pr → Prop
  | old (L1 L2 : List Pr) (y : Pr) : L = L1 ++ y :: L2 → y.k = k → PutR most L k v 0 (L1 ++ ⟨k, v⟩ :: L2)
  | full : (∀ y ∈ L, y.k ≠ k) → most ≤ L.length → PutR most L k v 140 L
  | new : (∀ y ∈ L, y.k ≠ k) → L.length < most → PutR most L k v 0 (L ++ [⟨k, v⟩])
section
variable {K K' : Nat → Nat} {w w' : World} {B t x most : Nat} {v : Value} {L : List Pr}
theorem appP {N : Nat} (h : RW 159 3 prC K w B t v L) (hB : B ≤ w.heap.size) (y : Pr) (hb : w.heap[N]? = some (.cells #[.string y.k.s, .int .i64 y.k.n, .int .i64 y.v] 159 (0, 0))) (hl : L.length ≤ 10000000) :
    ∃ v' w' K', (∀ r, (Builtin.append_ #[103, 103] r #[v, .slice (some ⟨N, 0, none⟩) 1 1]).run Try.prog w = .ok v' w') ∧ RW 159 3 prC K' w' B t v' (L ++ [y]) ∧ Mv (fun x => x = t) w w' K K' := by
  obtain ⟨i, hi, hz, hs, hby⟩ := info159
  exact RW.app Try.underlying103 hi hz hs hby rfl (by omega) prL prO h hB (x := y) (cs := #[.string y.k.s, .int .i64 y.k.n, .int .i64 y.v]) rfl hb (by omega) (by omega)
/-- a pair more -/
theorem DS.put (h : DS K w B t x most v L) (hB : B ≤ w.heap.size) (y : Pr) (hl : L.length ≤ 10000000) :
    ∃ oa' n' c' w' K', (∀ r, (Builtin.append_ #[103, 103] r #[v, .slice (some ⟨w.heap.size, 0, none⟩) 1 1]).run Try.prog ((w.alloc (.cells #[.string y.k.s, .int .i64 y.k.n, .int .i64 y.v] 159)).drew) = .ok (.slice oa' n' c') w') ∧
      w'.cell? ⟨x, 1, none⟩ = some v ∧ w'.frozen? ⟨x, 1, none⟩ = false ∧ DS K' (w'.setCell ⟨x, 1, none⟩ (.slice oa' n' c')) B t x most (.slice oa' n' c') (L ++ [y]) ∧ Mv (T2 t) w (w'.setCell ⟨x, 1, none⟩ (.slice oa' n' c')) K K' := by
  have m1 : Mv (fun _ => False) w ((w.alloc (.cells #[.string y.k.s, .int .i64 y.k.n, .int .i64 y.v] 159)).drew) K (ext w K (fun _ => t + 9)) := (Mv.alloc w K (fun _ => t + 9) _).trans (Mv.drew _ _ _)
  have h1 := h.mv m1 id id
  obtain ⟨v', w', K', q1, q2, q3⟩ := appP (N := w.heap.size) h1.l (Nat.le_trans hB m1.size) y (MapKept.heap_alloc w _).1 hl
  obtain ⟨oa', c', e, _, _⟩ := q2.form
  have hm := h1.me.mv q3 (by omega)
  refine ⟨oa', _, c', w', K', by rw [← e]; exact q1, ?_, ?_, ?_⟩
  · unfold World.cell?; rw [hm.at_]; rfl
  · unfold World.frozen?; rw [hm.at_]; rfl
  · rw [← e]
    have m3 := Mv.of_set w' K' ⟨x, 1, none⟩ v' hm.k
    refine ⟨⟨⟨?_, hm.k⟩, q2.mv m3 (by omega)⟩, (m1.mono (fun _ h => h.elim)).trans ((q3.mono (fun _ h => .inr h)).trans (m3.mono (fun _ h => .inl h)))⟩
    unfold World.setCell; simp [Array.getElem?_modify, hm.at_]
def PutPost (K : Nat → Nat) (w : World) (B t x most : Nat) (L : List Pr) (k : KeyP) (u : Int) (e : Ending) (w' : World) : Prop :=
  ∃ c L' K' v', e = .returned (.int .i64 c) ∧ PutR most L k u c L' ∧ DS K' w' B t x most v' L' ∧ Mv (T2 t) w w' K K'
set_option maxHeartbeats 1000000 in
theorem dput_any (h : DS K w B t x most v L) (hB : B ≤ w.heap.size) (hm20 : most ≤ 1048576) (hl : L.length ≤ 10000000) (k : KeyP) (u : Int) : Calls Try.prog 40 #[ptr x, keyV k, .int .i64 u] w (PutPost K w B t x most L k u) := by
  generalize hPO : PutPost K w B t x most L k u = PO
  have HPO := hid hPO
  clear hPO
  obtain ⟨w0, hw0⟩ : ∃ w0, w.alloc (.cells #[.string k.s, .int .i64 k.n] 32) = w0 := ⟨_, rfl⟩
  have B0 : Below w.heap.size w w0 := by rw [← hw0]; exact (Below.refl _ _).alloc (Nat.le_refl _) _
  obtain ⟨A0, hA⟩ : ∃ A0, w.heap.size = A0 := ⟨_, rfl⟩
  have tk : TB (ext w K (fun _ => t + 9)) w0 (t + 9) A0 (.cells #[.string k.s, .int .i64 k.n] 32) := by
    have := TB.new w K (fun _ => t + 9) (.cells #[.string k.s, .int .i64 k.n] 32) (t := t + 9) rfl
    rw [hw0, hA] at this
    exact this
  have m0 := Mv.of_below B0 K (fun _ => t + 9)
  have h0 := h.mv m0 id id
  have HF := hid (find_any h0 hl k)
  have k0 : w0.cell? ⟨A0, 0, none⟩ = some (.string k.s) := by unfold World.cell?; rw [tk.at_]; rfl
  have k1 : w0.cell? ⟨A0, 1, none⟩ = some (.int .i64 k.n) := by unfold World.cell?; rw [tk.at_]; rfl
  have HH := hid (And.intro h0 (And.intro m0 tk))
  have HN := hid (And.intro hl (And.intro hB hm20))
  clear h h0 m0 B0 hl hB tk hm20
  go_enter Try.func40, Try.ntmps40
  go_wp2_with fail
  refine HF.out.mono ?_
  rintro _ w1 ⟨i, rfl, hf, b1⟩
  have m1 := Mv.of_below b1 (ext w K (fun _ => t + 9)) (fun _ => t + 9)
  obtain ⟨K1, hK1⟩ : ∃ K1, ext w0 (ext w K (fun _ => t + 9)) (fun _ => t + 9) = K1 := ⟨_, rfl⟩
  rw [hK1] at m1
  have h1 := HH.out.1.mv m1 id id
  have tk1 := HH.out.2.2.mv m1 id
  have mt : Mv (T2 t) w w1 K K1 := (HH.out.2.1.trans m1).mono (fun _ h => h.elim)
  have z0 : w1.cell? ⟨A0, 0, none⟩ = some (.string k.s) := by unfold World.cell?; rw [tk1.at_]; rfl
  have z1 : w1.cell? ⟨A0, 1, none⟩ = some (.int .i64 k.n) := by unfold World.cell?; rw [tk1.at_]; rfl
  obtain ⟨oa, cap, e1, _, hg⟩ := h1.l.form
  subst e1
  obtain ⟨n, hn⟩ : ∃ n, L.length = n := ⟨_, rfl⟩
  have c1 := h1.c1
  rw [hn] at c1 hg
  rcases hf with ⟨rfl, hno⟩ | ⟨L1, L2, y, hL, rfl, hyk, _⟩
  · by_cases hfull : most ≤ n
    · have c0 := h1.c0
      have d1 : decide ((most : Int) ≤ (n : Int)) = true := by simp; omega
      have d2 : decide (most ≤ n) = true := by simpa using hfull
      have HE : Hid (∀ q, PO (.returned (.int .i64 140)) (w1.drewN q)) := fun q => by
        rw [← HPO.out]
        exact ⟨_, _, _, _, rfl, .full hno (by rw [hn]; exact hfull), h1.mv (T := fun _ => False) (w' := w1.drewN q) ⟨rfl, rfl, rfl, Nat.le_refl _, fun _ _ => rfl, fun _ _ _ => rfl⟩ id id, mt.trans ⟨rfl, rfl, rfl, Nat.le_refl _, fun _ _ => rfl, fun _ _ _ => rfl⟩⟩
      clear h1 tk1 mt m1 hK1 b1 hno hg hfull HF k0 k1
      go_wp2_with fail
      go_quiet (fail)
      go_wp2
      exact HE.out nq
    · have c0 := h1.c0
      have d1 : decide ((most : Int) ≤ (n : Int)) = false := by simp; omega
      have d2 : decide (most ≤ n) = false := by simpa using hfull
      have HK := hid (And.intro h1 (And.intro tk1 mt))
      have HNO := hid (And.intro hno hn)
      clear h1 tk1 mt m1 hK1 b1 hno hg hfull HF k0 k1
      go_wp2_with fail
      go_quiet (fail)
      obtain ⟨W, hW⟩ : ∃ W, w1.drewN nq = W := ⟨_, rfl⟩
      have mW : Mv (fun _ => False) w1 W K1 K1 := by rw [← hW]; exact ⟨rfl, rfl, rfl, Nat.le_refl _, fun _ _ => rfl, fun _ _ _ => rfl⟩
      have hd := HK.out.1.mv mW id id
      have tkW := HK.out.2.1.mv mW id
      have hBW : B ≤ W.heap.size := Nat.le_trans (Nat.le_trans HN.out.2.1 HK.out.2.2.size) mW.size
      obtain ⟨oa', n', c', wA, K2, r1, c11, f11, hd2, mv2⟩ := hd.put hBW ⟨k, u⟩ HN.out.1
      rw [HNO.out.2] at r1 c11
      have x1W : W.cell? ⟨x, 1, none⟩ = some (.slice oa n cap) := by have := hd.c1; rw [HNO.out.2] at this; exact this
      have yW0 : W.cell? ⟨A0, 0, none⟩ = some (.string k.s) := by unfold World.cell?; rw [tkW.at_]; rfl
      have yW1 : W.cell? ⟨A0, 1, none⟩ = some (.int .i64 k.n) := by unfold World.cell?; rw [tkW.at_]; rfl
      obtain ⟨wB, hwB⟩ : ∃ wB, W.alloc (.cells #[.string k.s, .int .i64 k.n, .int .i64 u] 159) = wB := ⟨_, rfl⟩
      have bx : wB.cell? ⟨x, 1, none⟩ = some (.slice oa n cap) := by rw [← hwB]; exact (World.cell?_of_block (a := ⟨x, 1, none⟩) (heap_alloc_old W _ hd.me.lt)).trans x1W
      have by0 : wB.cell? ⟨A0, 0, none⟩ = some (.string k.s) := by rw [← hwB]; exact (World.cell?_of_block (a := ⟨A0, 0, none⟩) (heap_alloc_old W _ tkW.lt)).trans yW0
      have by1 : wB.cell? ⟨A0, 1, none⟩ = some (.int .i64 k.n) := by rw [← hwB]; exact (World.cell?_of_block (a := ⟨A0, 1, none⟩) (heap_alloc_old W _ tkW.lt)).trans yW1
      obtain ⟨NW, hNW⟩ : ∃ NW, W.heap.size = NW := ⟨_, rfl⟩
      simp only at r1
      rw [hwB, hNW] at r1
      have R1 := hid r1
      have HE : Hid (PO (.returned (.int .i64 0)) (wA.setCell ⟨x, 1, none⟩ (.slice oa' n' c'))) := by
        rw [← HPO.out]
        exact ⟨_, _, _, _, rfl, .new HNO.out.1 (by rw [HNO.out.2]; simp at d2; omega), hd2, HK.out.2.2.trans ((mW.mono (fun _ h => h.elim)).trans mv2)⟩
      have hb159 := fun w => bld159 w k.s k.n u
      have hb103 := fun w => bls103 w k.s k.n u
      clear hd tkW hBW r1 hd2 mv2 mW HK HNO HN HH z0 z1 c0 c1 d1 d2
      rw [hW]
      clear hW hw0 hA
      generalize k.s = ks at *
      generalize k.n = kn at *
      go_wp2_with fail
      go_region_law (first
        | (refine step_app rfl (.tmp 35) (.tmp 39) 103 rfl (.slice oa n cap) (.slice (some ⟨NW, 0, none⟩) 1 1) _ _ (by go_simp) (by go_simp) (R1.out _) ?_))
      all_goals (
        go_wp2
        exact HE.out)
  · have hlen : L1.length < n := by rw [← hn, hL]; simp
    obtain ⟨g9, hg9⟩ := hg (by omega)
    subst hg9
    have hr := h1.l
    have hr2 := hr
    rw [hL] at hr2
    have hn2 : (L1 ++ y :: L2).length = n := by rw [← hL]; exact hn
    rw [hn2] at hr2
    obtain ⟨s1, q1⟩ := hr2.set1 prL hn2 2 (.int .i64 u) (x' := ⟨k, u⟩) (by omega) (by rw [← hyk]; rfl)
    have f3 := hr.own
    rw [hn] at f3
    have ff3 := f3.frozenAt (L1.length * 3 + 2)
    rw [hn] at hr
    have t2 : w1.cell? ⟨g9, L1.length * 3 + 2, none⟩ = some (.int .i64 y.v) := hr.cell prL hn (j := L1.length) (x := y) (by rw [hL]; simp) 2 (by omega)
    have HE : Hid (PO (.returned (.int .i64 0)) (w1.setCell ⟨g9, L1.length * 3 + 2, none⟩ (.int .i64 u))) := by
      rw [← HPO.out]
      refine ⟨_, _, _, _, rfl, .old L1 L2 y hL hyk, ⟨h1.me.mv q1 (by omega), ?_⟩, mt.trans (q1.mono (fun _ h => .inr h))⟩
      rw [hn]
      exact s1
    obtain ⟨jn, hjn⟩ : ∃ jn, L1.length = jn := ⟨_, rfl⟩
    rw [hjn] at t2 hlen HE ff3 ⊢
    have hj' : (jn : Int) < (n : Int) := by omega
    have hj0 : (0 : Int) ≤ (jn : Int) := by omega
    have hj1 : decide ((0 : Int) ≤ (jn : Int)) = true := by simp
    clear h1 tk1 mt m1 hK1 b1 hr hr2 s1 q1 f3 HF k0 k1 hL hyk hn2 hg
    go_wp2
    exact HE.out
end
end Go.Proofs.Ytkkamilmjaochaa
