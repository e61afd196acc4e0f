/- The document's cache: Ask of a stranger that is new. -/
import Derived.Test.YtnpffhgmakbdnaaPlRh
namespace Go.Proofs.Ytnpffhgmakbdnaa
open Go.RowKit
theorem bld88 (w : World) (a i s : Int) : (Instr.build 88 #[(0, whoV a i), (1, .int .i64 s)]).run Try.prog w = .ok (.agg #[.int .i64 a, .int .i64 i, .int .i64 s]) w := by kernel_rfl
theorem bld92 (w : World) (a i s : Int) : (Instr.build 92 #[(0, whoV a i), (1, .int .i64 s)]).run Try.prog w = .ok (.agg #[.int .i64 a, .int .i64 i, .int .i64 s, .bool false, .string ⟨#[]⟩]) w := by kernel_rfl
theorem bls68 (w : World) (a i s : Int) : (Instr.buildSlice 68 1 #[(0, .agg #[.int .i64 a, .int .i64 i, .int .i64 s])]).run Try.prog w = .ok (.slice (some ⟨w.heap.size, 0, none⟩) 1 1) (w.alloc (.cells #[.int .i64 a, .int .i64 i, .int .i64 s] 88)) := by kernel_rfl
theorem ext9 {w : World} {X : Nat → Nat} {t b : Nat} (h : X b = t) : ext w X (fun _ => t) b = t := by
  unfold ext
  split
  · exact h
  · rfl
section
variable {K K' : Nat → Nat} {w w' : World} {B t x : Nat} {g : Cf} {v1 v2 : Value} {L : List Kn} {I : List Sn} {C : List Cl} {a i seq water : Int}
/-- a Known more -/
theorem DC.putL (h : DC K w B t x g v1 v2 L I) (hB : B ≤ w.heap.size) (y : Kn) (hl : L.length ≤ 1000000) :
    ∃ oa' n' c' w' K', (∀ r, (Builtin.append_ #[68, 68] r #[v1, .slice (some ⟨w.heap.size, 0, none⟩) 1 1]).run Try.prog ((w.alloc (.cells #[.int .i64 y.a, .int .i64 y.i, .int .i64 y.water] 88)).drew) = .ok (.slice oa' n' c') w') ∧
      w'.cell? ⟨x, 4, none⟩ = some v1 ∧ w'.frozen? ⟨x, 4, none⟩ = false ∧ DC K' (w'.setCell ⟨x, 4, none⟩ (.slice oa' n' c')) B t x g (.slice oa' n' c') v2 (L ++ [y]) I ∧ Mv (T3 t) w (w'.setCell ⟨x, 4, none⟩ (.slice oa' n' c')) K K' ∧ (∀ b o, w.heap[b]? = some o → K b ≠ t → K b ≠ t + 1 → (w'.setCell ⟨x, 4, none⟩ (.slice oa' n' c')).heap[b]? = some o) := by
  have m1 : Mv (fun _ => False) w ((w.alloc (.cells #[.int .i64 y.a, .int .i64 y.i, .int .i64 y.water] 88)).drew) K (ext w K (fun _ => t + 9)) := (Mv.alloc w K (fun _ => t + 9) _).trans (Mv.drew _ _ _)
  have h1 := h.mv m1 id id id
  obtain ⟨v', w', K', q1, q2, q3⟩ := appK (N := w.heap.size) h1.l (Nat.le_trans hB m1.size) y (MapKept.heap_alloc w _).1 hl
  obtain ⟨oa', c', e, _, _⟩ := q2.form
  have hm := h1.me.mv q3 (by omega)
  refine ⟨oa', _, c', w', K', by rw [← e]; exact q1, ?_, ?_, ?_⟩
  · unfold World.cell?; rw [hm.at_]; rfl
  · unfold World.frozen?; rw [hm.at_]; rfl
  · rw [← e]
    have m3 := Mv.of_set w' K' ⟨x, 4, none⟩ v' hm.k
    refine ⟨⟨⟨?_, hm.k⟩, q2.mv m3 (by omega), (h1.i.mv q3 (by omega)).mv m3 (by omega)⟩, (m1.mono (fun _ h => h.elim)).trans ((q3.mono (fun _ h => .inr (.inl h))).trans (m3.mono (fun _ h => .inl h))), fun b o hb k1 k2 => ?_⟩
    · unfold World.setCell; simp [Array.getElem?_modify, hm.at_]
    · have hlt := (Array.getElem?_eq_some_iff.1 hb).1
      have hlt1 := Nat.lt_of_lt_of_le hlt m1.size
      have e1 := m1.old b hlt
      have e2 := q3.old b hlt1
      refine (m3.kept b (Nat.lt_of_lt_of_le hlt1 q3.size) (by rw [e2, e1]; exact k1)).trans ((q3.kept b hlt1 (by rw [e1]; exact k2)).trans ((m1.kept b hlt id).trans hb))
/-- an item more -/
theorem DC.putI (h : DC K w B t x g v1 v2 L I) (hB : B ≤ w.heap.size) (y : Sn) (hl : I.length ≤ 1000000) :
    ∃ oa' n' c' w' K', (∀ r, (Builtin.append_ #[69, 69] r #[v2, .slice (some ⟨w.heap.size, 0, none⟩) 1 1]).run Try.prog ((w.alloc (.cells #[.int .i64 y.a, .int .i64 y.i, .int .i64 y.seq, .bool y.dn, .string y.rep] 92)).drew) = .ok (.slice oa' n' c') w') ∧
      w'.cell? ⟨x, 5, none⟩ = some v2 ∧ w'.frozen? ⟨x, 5, none⟩ = false ∧ DC K' (w'.setCell ⟨x, 5, none⟩ (.slice oa' n' c')) B t x g v1 (.slice oa' n' c') L (I ++ [y]) ∧ Mv (T3 t) w (w'.setCell ⟨x, 5, none⟩ (.slice oa' n' c')) K K' := by
  have m1 : Mv (fun _ => False) w ((w.alloc (.cells #[.int .i64 y.a, .int .i64 y.i, .int .i64 y.seq, .bool y.dn, .string y.rep] 92)).drew) K (ext w K (fun _ => t + 9)) := (Mv.alloc w K (fun _ => t + 9) _).trans (Mv.drew _ _ _)
  have h1 := h.mv m1 id id id
  obtain ⟨v', w', K', q1, q2, q3⟩ := appN (N := w.heap.size) h1.i (Nat.le_trans hB m1.size) y (MapKept.heap_alloc w _).1 hl
  obtain ⟨oa', c', e, _, _⟩ := q2.form
  have hm := h1.me.mv q3 (by omega)
  refine ⟨oa', _, c', w', K', by rw [← e]; exact q1, ?_, ?_, ?_⟩
  · unfold World.cell?; rw [hm.at_]; rfl
  · unfold World.frozen?; rw [hm.at_]; rfl
  · rw [← e]
    have m3 := Mv.of_set w' K' ⟨x, 5, none⟩ v' hm.k
    refine ⟨⟨⟨?_, hm.k⟩, (h1.l.mv q3 (by omega)).mv m3 (by omega), q2.mv m3 (by omega)⟩, (m1.mono (fun _ h => h.elim)).trans ((q3.mono (fun _ h => .inr (.inr h))).trans (m3.mono (fun _ h => .inl h)))⟩
    unfold World.setCell; simp [Array.getElem?_modify, hm.at_]
theorem rel_newU {b m : Nat} (h : REL C L I) (hn : ∀ c ∈ C, ¬ c.is a i) : REL (C ++ [⟨a, i, water, [newE seq], b, m⟩]) (L ++ [⟨a, i, water⟩]) (I ++ [⟨a, i, seq, false, ⟨#[]⟩⟩]) := by
  have hno : I.filter (whoB a i) = [] := List.filter_eq_nil_iff.2 fun y hy e => by
    obtain ⟨c, hc, q⟩ := h.w y hy
    have := whoB_is.1 e
    exact hn c hc ⟨q.1.trans this.1, q.2.trans this.2⟩
  refine ⟨by rw [h.l]; simp [knOf], fun c hc => ?_, fun y hy => ?_⟩
  · rw [List.filter_append]
    rcases List.mem_append.1 hc with q | q
    · have : whoB c.a c.i ⟨a, i, seq, false, ⟨#[]⟩⟩ = false := by
        rw [Bool.eq_false_iff]
        intro e
        have e2 := whoB_is.1 e
        exact hn c q ⟨e2.1.symm, e2.2.symm⟩
      rw [h.i c q, List.filter_cons_of_neg (by rw [this]; simp)]
      simp
    · simp at q
      subst q
      rw [hno]
      simp [whoB, snOf]
  · rcases List.mem_append.1 hy with q | q
    · obtain ⟨c, hc, q2⟩ := h.w y q
      exact ⟨c, by simp [hc], q2⟩
    · simp at q
      subst q
      exact ⟨⟨a, i, water, [newE seq], b, m⟩, by simp, rfl, rfl⟩
set_option maxRecDepth 4000 in
set_option maxHeartbeats 1000000 in
theorem dask_newU {b m : Nat} (h : DC K w B t x g v1 v2 L I) (hB : B ≤ w.heap.size) (rel : REL C L I) (st : StOk g C) (hg : CfOk g) (hv : Vd a i seq water) (hn : ∀ c ∈ C, ¬ c.is a i) (hs : ¬ seq < water) (hcnt : C.length < g.cl) (hroom : tot g.rs C + g.rs ≤ g.by_) :
    Calls Try.prog 21 #[ptr x, whoV a i, .int .i64 seq, .int .i64 water] w (AskPostS K w B t x g 1 ⟨#[]⟩ (C ++ [⟨a, i, water, [newE seq], b, m⟩])) := by
  have HBB := hid hB
  clear hB
  obtain ⟨w0, hw0⟩ : ∃ w0, w.alloc (.cells #[.int .i64 a, .int .i64 i] 37) = w0 := ⟨_, rfl⟩
  have B0 : Below w.heap.size w w0 := by rw [← hw0]; exact below_box _ _
  have kb : w0.heap[w.heap.size]? = some (.cells #[.int .i64 a, .int .i64 i] 37) := by rw [← hw0]; exact (MapKept.heap_alloc w _).1
  have m0 := Mv.of_below B0 K (fun _ => t + 9)
  have h0 := h.mv m0 id id id
  obtain ⟨A0, hA⟩ : ∃ A0, w.heap.size = A0 := ⟨_, rfl⟩
  rw [hA] at kb
  have k0 : w0.cell? ⟨A0, 0, none⟩ = some (.int .i64 a) := by unfold World.cell?; rw [kb]; rfl
  have k1 : w0.cell? ⟨A0, 1, none⟩ = some (.int .i64 i) := by unfold World.cell?; rw [kb]; rfl
  have HLT : Hid (A0 < w0.heap.size) := (Array.getElem?_eq_some_iff.1 kb).1
  obtain ⟨d0, d1, d2, d3, d4, d5, d6, d7⟩ := hv
  have sm := rel_small rel st hg
  have HC := hid (client_any h0 (by omega) a i)
  have HH := hid (And.intro h0 m0)
  have HR := hid (And.intro rel hn)
  have HSM := hid sm
  have HST := hid (And.intro st hg)
  have dsw : decide (seq < water) = false := by simpa using hs
  have HK := hid kb
  clear h h0 m0 B0 kb rel st hg sm hn hs
  generalize hPO : AskPostS K w B t x g 1 ⟨#[]⟩ (C ++ [⟨a, i, water, [newE seq], b, m⟩]) = PO
  have HPO := hid hPO
  clear hPO
  go_enter Try.func21, Try.ntmps21
  go_wp2_with fail
  refine HC.out.mono ?_
  rintro _ w1 ⟨v, rfl, hf, hb1⟩
  obtain rfl := rel_stranger HR.out.1 HR.out.2 hf
  have m1 := Mv.of_below hb1 (ext w K (fun _ => t + 9)) (fun _ => t + 9)
  have h1 := HH.out.1.mv m1 id id id
  have H1 := hid (And.intro h1 (HH.out.2.trans m1))
  have kk1 : w1.heap[A0]? = _ := (hb1.block _ HLT.out).trans HK.out
  have y0 : w1.cell? ⟨A0, 0, none⟩ = some (.int .i64 a) := by unfold World.cell?; rw [kk1]; rfl
  have y1 : w1.cell? ⟨A0, 1, none⟩ = some (.int .i64 i) := by unfold World.cell?; rw [kk1]; rfl
  have HK1 := hid kk1
  clear hf hb1 m1 h1 kk1
  have HIT := hid (item_any H1.out.1 (by have := HSM.out; omega) a i seq)
  go_wp2_with fail
  refine HIT.out.mono ?_
  rintro _ w2 ⟨v, rfl, hf, hb2⟩
  obtain rfl : v = -1 := by
    rcases hf with ⟨e, _⟩ | ⟨L1, L2, y, e1, _, e3, _⟩
    · exact e
    · obtain ⟨c, hc, q⟩ := HR.out.1.w y (by rw [e1]; simp)
      exact absurd ⟨q.1.trans e3.1, q.2.trans e3.2.1⟩ (HR.out.2 c hc)
  have m2 := Mv.of_below hb2 (ext w0 (ext w K (fun _ => t + 9)) (fun _ => t + 9)) (fun _ => t + 9)
  have h2 := H1.out.1.mv m2 id id id
  have mw := H1.out.2.trans m2
  have kk2 : w2.heap[A0]? = _ := (hb2.block _ (Array.getElem?_eq_some_iff.1 HK1.out).1).trans HK1.out
  have HK2 := hid kk2
  obtain ⟨KA, HKA⟩ : ∃ KA, Hid (DC KA w2 B t x g v1 v2 L I ∧ Mv (fun _ => False) w w2 K KA ∧ KA A0 = t + 9) := ⟨_, h2, mw, ext9 (ext9 (ext_new (by omega)))⟩
  clear hf hb2 m2 h2 mw kk2 H1 HIT HK1 y0 y1 HH HC
  obtain ⟨Z, f, hf1, hf2⟩ : ∃ (Z : Type) (f : Z → World), (∀ z, Below w2.heap.size w2 (f z)) ∧ ∀ w', Below w2.heap.size w2 w' → ∃ z, w' = f z := ⟨{ w' // Below w2.heap.size w2 w' }, Subtype.val, fun z => z.2, fun w' h => ⟨⟨w', h⟩, rfl⟩⟩
  have HZD : Hid (∀ z, DC (ext w2 KA (fun _ => t + 9)) (f z) B t x g v1 v2 L I ∧ Mv (fun _ => False) w (f z) K (ext w2 KA (fun _ => t + 9)) ∧ (f z).heap[A0]? = some (.cells #[.int .i64 a, .int .i64 i] 37)) := fun z => by
    have mz := Mv.of_below (hf1 z) KA (fun _ => t + 9)
    exact ⟨HKA.out.1.mv mz id id id, HKA.out.2.1.trans mz, ((hf1 z).block _ (Array.getElem?_eq_some_iff.1 HK2.out).1).trans HK2.out⟩
  obtain ⟨oa, cap, e1, _, _⟩ := HKA.out.1.l.form
  obtain ⟨nL, hnL⟩ : ∃ nL, L.length = nL := ⟨_, rfl⟩
  rw [hnL] at e1
  subst e1
  obtain ⟨nLi, hnLi⟩ : ∃ nLi : Int, (nL : Int) = nLi := ⟨_, rfl⟩
  have hlenb : ∀ (ty : TypeId) (W : World), (Builtin.len_ #[68] ty #[.slice oa nL cap]).run Try.prog W = .ok (.int .i64 nLi) W := fun ty W => by rw [← hnLi]; rfl
  obtain ⟨gc, hgc⟩ : ∃ gc : Int, (g.cl : Int) = gc := ⟨_, rfl⟩
  obtain ⟨ge, hge⟩ : ∃ ge : Int, (g.en : Int) = ge := ⟨_, rfl⟩
  obtain ⟨gb, hgb⟩ : ∃ gb : Int, (g.by_ : Int) = gb := ⟨_, rfl⟩
  obtain ⟨gr, hgr⟩ : ∃ gr : Int, (g.rs : Int) = gr := ⟨_, rfl⟩
  obtain ⟨bn, hbn⟩ : ∃ bn : Int, ((tot g.rs C : Nat) : Int) = bn := ⟨_, rfl⟩
  have x0 : ∀ z, (f z).cell? ⟨x, 0, none⟩ = some (.int .i64 gc) := fun z => by rw [← hgc]; exact (HZD.out z).1.c0
  have x1 : ∀ z, (f z).cell? ⟨x, 1, none⟩ = some (.int .i64 ge) := fun z => by rw [← hge]; exact (HZD.out z).1.c1
  have x2 : ∀ z, (f z).cell? ⟨x, 2, none⟩ = some (.int .i64 gb) := fun z => by rw [← hgb]; exact (HZD.out z).1.c2
  have x3 : ∀ z, (f z).cell? ⟨x, 3, none⟩ = some (.int .i64 gr) := fun z => by rw [← hgr]; exact (HZD.out z).1.c3
  have x4 : ∀ z, (f z).cell? ⟨x, 4, none⟩ = some (.slice oa nL cap) := fun z => (HZD.out z).1.c4
  have z0 : ∀ z, (f z).cell? ⟨A0, 0, none⟩ = some (.int .i64 a) := fun z => by unfold World.cell?; rw [(HZD.out z).2.2]; rfl
  have z1 : ∀ z, (f z).cell? ⟨A0, 1, none⟩ = some (.int .i64 i) := fun z => by unfold World.cell?; rw [(HZD.out z).2.2]; rfl
  have HOF : Hid (∀ z, Calls Try.prog 39 #[ptr x, whoV a i] (f z) fun e w'' => e = .returned (.int .i64 0) ∧ ∃ z', w'' = f z') := fun z => by
    have h9 := of_any (HZD.out z).1 (by have := HSM.out; omega) a i
    rw [rel_of0 HR.out.1 HR.out.2] at h9
    refine h9.mono ?_
    rintro _ w'' ⟨rfl, hb⟩
    exact ⟨rfl, hf2 _ ((hf1 z).trans (hb.mono (hf1 z).size))⟩
  have HBY : Hid (∀ z, Calls Try.prog 28 #[ptr x] (f z) fun e w'' => e = .returned (.int .i64 bn) ∧ ∃ z', w'' = f z') := fun z => by
    refine (dbytes_any (HZD.out z).1 (by have := HSM.out; omega) (rel_sizes HR.out.1 HST.out.1 HST.out.2)).mono ?_
    rintro _ _ ⟨rfl, rfl⟩
    exact ⟨by rw [rel_bytes g.rs C I HST.out.1.who HR.out.1.i HR.out.1.w, hbn], z, rfl⟩
  have HZ0 : Hid (∃ z, w2.drew = f z) := hf2 _ (Below.refl _ _).drew
  have instZ : Nonempty Z := ⟨HZ0.out.choose⟩
  have hok := HST.out.2
  have hcl := hok.c
  have hce := hok.e
  have hcr := hok.r
  have hcb := hok.b
  have hstl := HST.out.1.len
  have hstt := HST.out.1.tot
  have hLC : L.length = C.length := by rw [HR.out.1.l]; simp
  have dE : (0 == ge) = false := by simp; omega
  have hsum : wrap64 (bn + gr) = bn + gr := by unfold wrap64; omega
  have dA : decide ((-1 : Int) < 0) = true := by decide
  have dC : (nLi == gc) = false := by simp; omega
  have dB : decide (gb < bn + gr) = false := by simp; omega
  clear hok hcl hce hcr hcb hstl hstt hLC hnL hgc hge hgb hgr hbn hf1 hf2 hnLi
  go_wp2_with fail
  refine wp_region_class f (by kernel_rfl) (by kernel_rfl) HZ0.out ?_
  repeat (go_big_quiet_step (first | (go_at_call 39; exact HOF.out _) | (go_at_call 28; exact HBY.out _)))
  refine wpQuiet_nil ?_
  rintro _ ⟨z, rfl⟩
  obtain ⟨hd, hm, hk⟩ := HZD.out z
  obtain ⟨KW, hKW⟩ : ∃ KW, ext w2 KA (fun _ => t + 9) = KW := ⟨_, rfl⟩
  rw [hKW] at hd hm
  obtain ⟨W, hW⟩ : ∃ W, f z = W := ⟨_, rfl⟩
  rw [hW] at hd hm hk ⊢
  have hBW : B ≤ W.heap.size := Nat.le_trans HBB.out hm.size
  have hsm := HSM.out
  have hkA : KW A0 = t + 9 := by rw [← hKW]; exact ext9 HKA.out.2.2
  obtain ⟨ob, cb, e2, _, _⟩ := hd.i.form
  obtain ⟨nI, hnI⟩ : ∃ nI, I.length = nI := ⟨_, rfl⟩
  rw [hnI] at e2
  subst e2
  obtain ⟨oa1, n1, cc1, wA, K1, r1, c41, f41, hd1, mv1, hkeep⟩ := hd.putL hBW ⟨a, i, water⟩ (by omega)
  have hk1 := hkeep A0 _ hk (by omega) (by omega)
  have hBS : B ≤ (wA.setCell ⟨x, 4, none⟩ (.slice oa1 n1 cc1)).heap.size := Nat.le_trans hBW mv1.size
  obtain ⟨wS, hwS⟩ : ∃ wS, wA.setCell ⟨x, 4, none⟩ (.slice oa1 n1 cc1) = wS := ⟨_, rfl⟩
  rw [hwS] at hd1 mv1 hk1 hBS
  obtain ⟨oa2, n2, cc2, wI, K2, r2, c52, f52, hd2, mv2⟩ := hd1.putI hBS ⟨a, i, seq, false, ⟨#[]⟩⟩ (by omega)
  simp only at r1 r2
  have x4W := hd.c4
  have x5S := hd1.c5
  have y0 : W.cell? ⟨A0, 0, none⟩ = some (.int .i64 a) := by unfold World.cell?; rw [hk]; rfl
  have y1 : W.cell? ⟨A0, 1, none⟩ = some (.int .i64 i) := by unfold World.cell?; rw [hk]; rfl
  have yS0 : wS.cell? ⟨A0, 0, none⟩ = some (.int .i64 a) := by unfold World.cell?; rw [hk1]; rfl
  have yS1 : wS.cell? ⟨A0, 1, none⟩ = some (.int .i64 i) := by unfold World.cell?; rw [hk1]; rfl
  obtain ⟨wB, hwB⟩ : ∃ wB, W.alloc (.cells #[.int .i64 a, .int .i64 i, .int .i64 water] 88) = wB := ⟨_, rfl⟩
  obtain ⟨wJ, hwJ⟩ : ∃ wJ, wS.alloc (.cells #[.int .i64 a, .int .i64 i, .int .i64 seq, .bool false, .string ⟨#[]⟩] 92) = wJ := ⟨_, rfl⟩
  have bx4 : wB.cell? ⟨x, 4, none⟩ = some (.slice oa nL cap) := by rw [← hwB]; exact (World.cell?_of_block (a := ⟨x, 4, none⟩) (heap_alloc_old W _ hd.me.lt)).trans x4W
  have by0 : wB.cell? ⟨A0, 0, none⟩ = some (.int .i64 a) := by rw [← hwB]; exact (World.cell?_of_block (a := ⟨A0, 0, none⟩) (heap_alloc_old W _ (Array.getElem?_eq_some_iff.1 hk).1)).trans y0
  have by1 : wB.cell? ⟨A0, 1, none⟩ = some (.int .i64 i) := by rw [← hwB]; exact (World.cell?_of_block (a := ⟨A0, 1, none⟩) (heap_alloc_old W _ (Array.getElem?_eq_some_iff.1 hk).1)).trans y1
  have jx5 : wJ.cell? ⟨x, 5, none⟩ = some (.slice ob nI cb) := by rw [← hwJ]; exact (World.cell?_of_block (a := ⟨x, 5, none⟩) (heap_alloc_old wS _ hd1.me.lt)).trans x5S
  have jy0 : wJ.cell? ⟨A0, 0, none⟩ = some (.int .i64 a) := by rw [← hwJ]; exact (World.cell?_of_block (a := ⟨A0, 0, none⟩) (heap_alloc_old wS _ (Array.getElem?_eq_some_iff.1 hk1).1)).trans yS0
  have jy1 : wJ.cell? ⟨A0, 1, none⟩ = some (.int .i64 i) := by rw [← hwJ]; exact (World.cell?_of_block (a := ⟨A0, 1, none⟩) (heap_alloc_old wS _ (Array.getElem?_eq_some_iff.1 hk1).1)).trans yS1
  obtain ⟨NW, hNW⟩ : ∃ NW, W.heap.size = NW := ⟨_, rfl⟩
  obtain ⟨NS, hNS⟩ : ∃ NS, wS.heap.size = NS := ⟨_, rfl⟩
  rw [hwB, hNW] at r1
  rw [hwJ, hNS] at r2
  have R1 := hid r1
  have R2 := hid r2
  have HE : Hid (PO (.returned (.tuple #[.int .i64 1, .string ⟨#[]⟩])) (wI.setCell ⟨x, 5, none⟩ (.slice oa2 n2 cc2))) := by
    rw [← HPO.out]
    exact ⟨rfl, _, _, _, _, _, hd2, rel_newU HR.out.1 HR.out.2, (hm.mono (fun _ h => h.elim)).trans (mv1.trans mv2)⟩
  have hb88 := fun w => bld88 w a i water
  have hb68 := fun w => bls68 w a i water
  have hb92 := fun w => bld92 w a i seq
  have hb69 := fun w => bls69 w a i seq false ⟨#[]⟩
  clear hd hm hk hKW hW hBW hsm hkA hnI hd1 mv1 hkeep hk1 hBS hd2 mv2 r1 r2 x0 x1 x2 x3 x4 z0 z1 hlenb dE hsum dC dB HOF HBY HZD HZ0 instZ HKA HK2 HSM HST HR HBB HLT HK hcnt hroom
  go_wp2_with fail
  go_region_law (first
    | (refine step_app rfl (.tmp 154) (.tmp 158) 68 rfl (.slice oa nL cap) (.slice (some ⟨NW, 0, none⟩) 1 1) _ _ (by go_simp) (by go_simp) (R1.out _) ?_))
  all_goals (
    go_wp2_with fail
    go_region_law (first
      | (refine step_app rfl (.tmp 166) (.tmp 170) 69 rfl (.slice ob nI cb) (.slice (some ⟨NS, 0, none⟩) 1 1) _ _ (by go_simp) (by go_simp) (R2.out _) ?_))
    all_goals (
      go_wp2
      exact HE.out))
end
end Go.Proofs.Ytnpffhgmakbdnaa
