/- AirPlays: each block has a tag; what holds of two Airs and of the book. Tags: 0 what is never written again, 1 the book, 2 and 3 the program's Airs, 4 and 5 the document's with their lists, 8 and 9 the book's two lists, 10 + j the j-th list that came out. AirPlays: one step on both Airs. -/
import Derived.Test.YtlnaejhdnbmmjaaPgF
namespace Go.Proofs.Ytlnaejhdnbmmjaa
open Go.RowKit
/-- a step that touches blocks of the tags T alone -/
structure Mv (T : Nat → Prop) (w w' : World) (K K' : Nat → Nat) : Prop where
  os : w'.os = w.os
  tape : w'.tape = w.tape
  output : w'.output = w.output
  size : w.heap.size ≤ w'.heap.size
  old : ∀ b, b < w.heap.size → K' b = K b
  kept : ∀ b, b < w.heap.size → ¬ T (K b) → w'.heap[b]? = w.heap[b]?
theorem Mv.trans {T : Nat → Prop} {a b c : World} {K K' K'' : Nat → Nat} (h : Mv T a b K K') (k : Mv T b c K' K'') : Mv T a c K K'' :=
  ⟨k.os.trans h.os, k.tape.trans h.tape, k.output.trans h.output, Nat.le_trans h.size k.size, fun i hi => (k.old i (Nat.lt_of_lt_of_le hi h.size)).trans (h.old i hi), fun i hi ht => (k.kept i (Nat.lt_of_lt_of_le hi h.size) (by rw [h.old i hi]; exact ht)).trans (h.kept i hi ht)⟩
theorem Mv.mono {T T' : Nat → Prop} {a b : World} {K K' : Nat → Nat} (h : Mv T a b K K') (ht : ∀ t, T t → T' t) : Mv T' a b K K' := ⟨h.os, h.tape, h.output, h.size, h.old, fun i hi h2 => h.kept i hi (fun h3 => h2 (ht _ h3))⟩
/-- the old tags, and one for the new blocks -/
def ext (w : World) (K : Nat → Nat) (N : Nat → Nat) : Nat → Nat := fun b => if b < w.heap.size then K b else N b
theorem ext_old {w : World} {K N : Nat → Nat} {b : Nat} (h : b < w.heap.size) : ext w K N b = K b := if_pos h
theorem ext_new {w : World} {K N : Nat → Nat} {b : Nat} (h : w.heap.size ≤ b) : ext w K N b = N b := if_neg (by omega)
theorem Mv.of_below {w w' : World} (h : Below w.heap.size w w') (K N : Nat → Nat) : Mv (fun _ => False) w w' K (ext w K N) := ⟨h.os, h.tape, h.output, h.size, fun _ hb => ext_old hb, fun b hb _ => h.block b hb⟩
theorem Mv.of_grown {w w' : World} {p t : Nat} (h : w.grownBy w' (some p)) (K N : Nat → Nat) (hp : K p = t) : Mv (fun x => x = t) w w' K (ext w K N) :=
  ⟨h.os, h.tape, h.output, h.size, fun _ hb => ext_old hb, fun b hb ht => h.block b hb (fun e => ht (by cases e; exact hp))⟩
theorem Mv.below {T : Nat → Prop} {W w w' : World} {K K' : Nat → Nat} (h : Mv T w w' K K') (hB : Below W.heap.size W w) (hK : ∀ b, b < W.heap.size → K b = 0) (ht : ¬ T 0) : Below W.heap.size W w' ∧ ∀ b, b < W.heap.size → K' b = 0 :=
  ⟨⟨h.os.trans hB.os, h.tape.trans hB.tape, h.output.trans hB.output, Nat.le_trans hB.size h.size, fun b hb => (h.kept b (Nat.lt_of_lt_of_le hb hB.size) (by rw [hK b hb]; exact ht)).trans (hB.block b hb)⟩, fun b hb => (h.old b (Nat.lt_of_lt_of_le hb hB.size)).trans (hK b hb)⟩

/-- the i-th Airs: the program's at p has l, the document's at q has d -/
structure AP (K : Nat → Nat) (w : World) (B i p q : Nat) (l : List Pk) (now : Int) (d : List Pk) (then_ : Int) : Prop where
  pa : ∃ oa c g, PA w p l now oa c g ∧ K g = 0 ∧ g < w.heap.size
  da : ∃ v, DA w B q d then_ v ∧ ∀ r, v.ownBlock = some r → K r = 4 + i
  kp : K p = 2 + i
  kq : K q = 4 + i
section
variable {K K' : Nat → Nat} {w w' : World} {B i p q : Nat} {l l' d d' : List Pk} {now now' tn tn' : Int}
theorem AP.mv {T : Nat → Prop} (h : AP K w B i p q l now d tn) (m : Mv T w w' K K') (t0 : ¬ T 0) (t2 : ¬ T (2 + i)) (t4 : ¬ T (4 + i)) : AP K' w' B i p q l now d tn := by
  obtain ⟨oa, c, g, h1, h2, h3⟩ := h.pa
  obtain ⟨v, h4, h5⟩ := h.da
  refine ⟨⟨oa, c, g, h1.kept (m.kept p h1.lt (by rw [h.kp]; exact t2)) (fun _ => m.kept g h3 (by rw [h2]; exact t0)), (m.old g h3).trans h2, Nat.lt_of_lt_of_le h3 m.size⟩, ⟨v, h4.kept (m.kept q h4.lt (by rw [h.kq]; exact t4)) (fun r hr => m.kept r (h4.own.lt r hr).2 (by rw [h5 r hr]; exact t4)) m.size, fun r hr => (m.old r (h4.own.lt r hr).2).trans (h5 r hr)⟩, (m.old p h1.lt).trans h.kp, (m.old q h4.lt).trans h.kq⟩
/-- behind a call of the program's Air -/
theorem AP.prog {g : Nat} (h : AP K w B i p q l now d tn) (h2 : K g = 0) (h3 : g < w.heap.size) (hx : PAx w w' p l' now' g) (hg : w.grownBy w' (some p)) :
    ∃ K', AP K' w' B i p q l' now' d tn ∧ Mv (fun x => x = 2 + i) w w' K K' := by
  have m := Mv.of_grown hg K (fun _ => 0) h.kp
  obtain ⟨v, h4, h5⟩ := h.da
  obtain ⟨oa0, c0, g0, h1, _⟩ := h.pa
  obtain ⟨oa', c', g', h6, h7⟩ := hx
  refine ⟨_, ⟨⟨oa', c', g', h6, ?_, ?_⟩, ⟨v, h4.kept (m.kept q h4.lt (by rw [h.kq]; omega)) (fun r hr => m.kept r (h4.own.lt r hr).2 (by rw [h5 r hr]; omega)) m.size, fun r hr => (m.old r (h4.own.lt r hr).2).trans (h5 r hr)⟩, (m.old p h1.lt).trans h.kp, (m.old q h4.lt).trans h.kq⟩, m⟩
  · rcases h7 with e | e
    · rw [e]; exact (m.old g h3).trans h2
    · exact ext_new e.1
  · rcases h7 with e | e
    · rw [e]; exact Nat.lt_of_lt_of_le h3 m.size
    · exact e.2
/-- behind a call of the document's Air -/
theorem AP.doc {v : Value} (h : AP K w B i p q l now d tn) (hv : ∀ r, v.ownBlock = some r → K r = 4 + i) (hx : DAx w w' B q d' tn' v) :
    ∃ K', AP K' w' B i p q l now d' tn' ∧ Mv (fun x => x = 4 + i) w w' K K' := by
  obtain ⟨v', h1, h2⟩ := hx
  obtain ⟨v0, h0, _⟩ := h.da
  have m : Mv (fun x => x = 4 + i) w w' K (ext w K (fun _ => 4 + i)) := ⟨h2.os, h2.tape, h2.output, h2.size, fun _ hb => ext_old hb, fun b hb ht => h2.block b hb (fun e => ht (by rw [e]; exact h.kq)) (fun e => ht (hv b e.symm))⟩
  obtain ⟨oa, c, g, h3, h4, h5⟩ := h.pa
  refine ⟨_, ⟨⟨oa, c, g, h3.kept (m.kept p h3.lt (by rw [h.kp]; omega)) (fun _ => m.kept g h5 (by rw [h4]; omega)), (m.old g h5).trans h4, Nat.lt_of_lt_of_le h5 m.size⟩, ⟨v', h1, fun r hr => ?_⟩, (m.old p h3.lt).trans h.kp, (m.old q h0.lt).trans h.kq⟩, m⟩
  rcases h2.row r hr with e | e
  · by_cases hlt : r < w.heap.size
    · exact (m.old r hlt).trans (hv r e)
    · exact ext_new (by omega)
  · exact ext_new e
theorem AP.most (h : AP K w B i p q l now d tn) : l.length ≤ 1000 := by obtain ⟨_, _, _, h1, _⟩ := h.pa; exact h1.most
theorem AP.send (h : AP K w B i p q l now d tn) (x : Pk) : Calls Try.prog 15 #[.pointer (some ⟨p, 0, none⟩), pkA x] w fun e w' => e = .returned (.int .i64 (sendE l x)) ∧ ∃ K', AP K' w' B i p q (sendL l x) now d tn ∧ Mv (fun x => x = 2 + i) w w' K K' := by
  obtain ⟨oa, c, g, h1, h2, h3⟩ := h.pa
  exact (send_any x h1).mono fun e w' ⟨e1, e2, e3⟩ => ⟨e1, h.prog h2 h3 e2 e3⟩
theorem AP.dlv (h : AP K w B i p q l now d tn) (n : Int) : Calls Try.prog 12 #[.pointer (some ⟨p, 0, none⟩), .int .i64 n] w fun e w' => e = .returned (.tuple #[pkA (dlvP l n), .int .i64 (dropE l n)]) ∧ ∃ K', AP K' w' B i p q (dropL l n) now d tn ∧ Mv (fun x => x = 2 + i) w w' K K' := by
  obtain ⟨oa, c, g, h1, h2, h3⟩ := h.pa
  exact (deliver_any n h1).mono fun e w' ⟨e1, e2, e3⟩ => ⟨e1, h.prog h2 h3 e2 e3⟩
theorem AP.drp (h : AP K w B i p q l now d tn) (n : Int) : Calls Try.prog 13 #[.pointer (some ⟨p, 0, none⟩), .int .i64 n] w fun e w' => e = .returned (.int .i64 (dropE l n)) ∧ ∃ K', AP K' w' B i p q (dropL l n) now d tn ∧ Mv (fun x => x = 2 + i) w w' K K' := by
  obtain ⟨oa, c, g, h1, h2, h3⟩ := h.pa
  exact (drop_any n h1).mono fun e w' ⟨e1, e2, e3⟩ => ⟨e1, h.prog h2 h3 e2 e3⟩
theorem AP.dbl (h : AP K w B i p q l now d tn) (n : Int) : Calls Try.prog 14 #[.pointer (some ⟨p, 0, none⟩), .int .i64 n] w fun e w' => e = .returned (.int .i64 (dblE l n)) ∧ ∃ K', AP K' w' B i p q (dblL l n) now d tn ∧ Mv (fun x => x = 2 + i) w w' K K' := by
  obtain ⟨oa, c, g, h1, h2, h3⟩ := h.pa
  exact (double_any n h1).mono fun e w' ⟨e1, e2, e3⟩ => ⟨e1, h.prog h2 h3 e2 e3⟩
theorem AP.tick (h : AP K w B i p q l now d tn) (hn : -1000000000000 ≤ now ∧ now ≤ 1000000000000) : Calls Try.prog 20 #[.pointer (some ⟨p, 0, none⟩)] w fun e w' => e = .returned (.int .i64 (now + 1)) ∧ ∃ K', AP K' w' B i p q l (now + 1) d tn ∧ Mv (fun x => x = 2 + i) w w' K K' := by
  obtain ⟨oa, c, g, h1, h2, h3⟩ := h.pa
  exact (tick_any h1 hn).mono fun e w' ⟨e1, e2, e3⟩ => ⟨e1, h.prog h2 h3 (e2.x w) e3⟩
theorem AP.now_ (h : AP K w B i p q l now d tn) : Calls Try.prog 18 #[.pointer (some ⟨p, 0, none⟩)] w fun e w' => e = .returned (.int .i64 now) ∧ w' = w := by
  obtain ⟨oa, c, g, h1, h2, h3⟩ := h.pa
  exact now_any h1
theorem AP.fly (h : AP K w B i p q l now d tn) : Calls Try.prog 17 #[.pointer (some ⟨p, 0, none⟩)] w fun e w' => ∃ ob cap, e = .returned (.slice ob l.length cap) ∧ FlyP w w' l ob cap ∧ Below w.heap.size w w' := by
  obtain ⟨oa, c, g, h1, h2, h3⟩ := h.pa
  exact flying_any h1
theorem AP.dsend (h : AP K w B i p q l now d tn) (x : Pk) : Calls Try.prog 21 #[.pointer (some ⟨q, 0, none⟩), pkA x] w fun e w' => e = .returned (.int .i64 (sendE d x)) ∧ ∃ K', AP K' w' B i p q l now (sendL d x) tn ∧ Mv (fun x => x = 4 + i) w w' K K' := by
  obtain ⟨v, h1, h2⟩ := h.da
  exact (dsend_any x h1).mono fun e w' ⟨e1, e2⟩ => ⟨e1, h.doc h2 e2⟩
theorem AP.ddlv (h : AP K w B i p q l now d tn) (n : Int) : Calls Try.prog 22 #[.pointer (some ⟨q, 0, none⟩), .int .i64 n] w fun e w' => e = .returned (.tuple #[pkA (dlvP d n), .int .i64 (dropE d n)]) ∧ ∃ K', AP K' w' B i p q l now (dropL d n) tn ∧ Mv (fun x => x = 4 + i) w w' K K' := by
  obtain ⟨v, h1, h2⟩ := h.da
  exact (ddeliver_any n h1).mono fun e w' ⟨e1, e2⟩ => ⟨e1, h.doc h2 e2⟩
theorem AP.ddrp (h : AP K w B i p q l now d tn) (n : Int) : Calls Try.prog 23 #[.pointer (some ⟨q, 0, none⟩), .int .i64 n] w fun e w' => e = .returned (.int .i64 (dropE d n)) ∧ ∃ K', AP K' w' B i p q l now (dropL d n) tn ∧ Mv (fun x => x = 4 + i) w w' K K' := by
  obtain ⟨v, h1, h2⟩ := h.da
  exact (ddrop_any n h1).mono fun e w' ⟨e1, e2⟩ => ⟨e1, h.doc h2 e2⟩
theorem AP.ddbl (h : AP K w B i p q l now d tn) (n : Int) : Calls Try.prog 24 #[.pointer (some ⟨q, 0, none⟩), .int .i64 n] w fun e w' => e = .returned (.int .i64 (dblE d n)) ∧ ∃ K', AP K' w' B i p q l now (dblL d n) tn ∧ Mv (fun x => x = 4 + i) w w' K K' := by
  obtain ⟨v, h1, h2⟩ := h.da
  exact (ddouble_any n h1).mono fun e w' ⟨e1, e2⟩ => ⟨e1, h.doc h2 e2⟩
theorem AP.dtick (h : AP K w B i p q l now d tn) (hn : -1000000000000 ≤ tn ∧ tn ≤ 1000000000000) : Calls Try.prog 26 #[.pointer (some ⟨q, 0, none⟩)] w fun e w' => e = .returned (.int .i64 (tn + 1)) ∧ ∃ K', AP K' w' B i p q l now d (tn + 1) ∧ Mv (fun x => x = 4 + i) w w' K K' := by
  obtain ⟨v, h1, h2⟩ := h.da
  exact (dtick_any h1 hn).mono fun e w' ⟨e1, e2, e3⟩ => ⟨e1, h.doc h2 ⟨_, e2, e3⟩⟩
theorem AP.dnow (h : AP K w B i p q l now d tn) : Calls Try.prog 27 #[.pointer (some ⟨q, 0, none⟩)] w fun e w' => e = .returned (.int .i64 tn) ∧ w' = w := by
  obtain ⟨v, h1, h2⟩ := h.da
  exact dnow_any h1
theorem AP.dfly (h : AP K w B i p q l now d tn) : Calls Try.prog 25 #[.pointer (some ⟨q, 0, none⟩)] w fun e w' => ∃ ob cap, e = .returned (.slice ob d.length cap) ∧ FlyP w w' d ob cap ∧ Below w.heap.size w w' := by
  obtain ⟨v, h1, h2⟩ := h.da
  exact dflying_any h1
end

/-- a list that came out, untouched -/
def FreeE (K : Nat → Nat) (w : World) (B j : Nat) (v : Value) (l : List Pk) : Prop :=
  l.length ≤ 1000 ∧ ∃ oa c, v = .slice oa l.length c ∧ ((l = [] ∧ c = 0) ∨ ∃ g, oa = some ⟨g, 0, none⟩ ∧ K g = 10 + j ∧ w.ownsRow B 37 3 v l.length (pks l))
/-- what it must be -/
def WasE (K : Nat → Nat) (w : World) (u : Value) (l : List Pk) : Prop := ∃ oa c g, u = .slice oa l.length c ∧ (0 < l.length → oa = some ⟨g, 0, none⟩ ∧ K g = 0) ∧ PkAt w g 0 l
theorem FreeE.mv {T : Nat → Prop} {K K' : Nat → Nat} {w w' : World} {B j : Nat} {v : Value} {l : List Pk} (h : FreeE K w B j v l) (m : Mv T w w' K K') (ht : ¬ T (10 + j)) : FreeE K' w' B j v l := by
  obtain ⟨h0, oa, c, h1, h2⟩ := h
  refine ⟨h0, oa, c, h1, h2.imp id ?_⟩
  rintro ⟨g, h3, h4, h5⟩
  subst h3
  have hl := (h5.lt g (by rw [h1]; rfl)).2
  refine ⟨g, rfl, (m.old g hl).trans h4, own_block h5 (fun r hr => ?_)⟩
  rw [h1] at hr
  cases hr
  exact m.kept g hl (by rw [h4]; exact ht)
theorem WasE.mv {T : Nat → Prop} {K K' : Nat → Nat} {w w' : World} {u : Value} {l : List Pk} (h : WasE K w u l) (m : Mv T w w' K K') (ht : ¬ T 0) : WasE K' w' u l := by
  obtain ⟨oa, c, g, h1, h2, h3⟩ := h
  rcases Nat.eq_zero_or_pos l.length with h0 | h0
  · obtain rfl := List.eq_nil_of_length_eq_zero h0
    exact ⟨oa, c, g, h1, fun h => by simp at h, ⟨fun i t h => by simp at h, fun i t h => by simp at h, fun i t h => by simp at h⟩⟩
  · have hl := h3.lt h0
    obtain ⟨e1, e2⟩ := h2 h0
    exact ⟨oa, c, g, h1, fun _ => ⟨e1, (m.old g hl).trans e2⟩, h3.of_block (m.kept g hl (by rw [e2]; exact ht))⟩
/-- the book: nf and nw entries, of which n are known -/
structure BK (K : Nat → Nat) (w : World) (B bb n nf nw : Nat) (vf vw : Value) (FL WL : List Value) : Prop where
  blk : w.heap[bb]? = some (.cells #[vf, vw, .slice none 0 0, .slice none 0 0, .slice none 0 0] 35 (0, 0))
  kb : K bb = 1
  f : w.ownsRow B 43 1 vf nf FL
  g : w.ownsRow B 43 1 vw nw WL
  kf : ∀ g, vf.ownBlock = some g → K g = 8
  kw : ∀ g, vw.ownBlock = some g → K g = 9
  ent : ∀ j, j < n → ∃ v u l, FL[j]? = some v ∧ WL[j]? = some u ∧ FreeE K w B j v l ∧ WasE K w u l
  hB : B ≤ w.heap.size
section
variable {K K' : Nat → Nat} {w w' : World} {B bb n nf nw : Nat} {vf vw : Value} {FL WL : List Value}
theorem BK.lt (h : BK K w B bb n nf nw vf vw FL WL) : bb < w.heap.size := (Array.getElem?_eq_some_iff.1 h.blk).1
theorem BK.lenF (h : BK K w B bb n nf nw vf vw FL WL) : FL.length = nf := by simpa using h.f.1
theorem BK.lenW (h : BK K w B bb n nf nw vf vw FL WL) : WL.length = nw := by simpa using h.g.1
theorem BK.mv {T : Nat → Prop} (h : BK K w B bb n nf nw vf vw FL WL) (m : Mv T w w' K K') (t0 : ¬ T 0) (t1 : ¬ T 1) (t8 : ¬ T 8) (t9 : ¬ T 9) (t10 : ∀ j, ¬ T (10 + j)) : BK K' w' B bb n nf nw vf vw FL WL := by
  refine ⟨(m.kept bb h.lt (by rw [h.kb]; exact t1)).trans h.blk, (m.old bb h.lt).trans h.kb, own_block h.f (fun g hg => m.kept g (h.f.lt g hg).2 (by rw [h.kf g hg]; exact t8)), own_block h.g (fun g hg => m.kept g (h.g.lt g hg).2 (by rw [h.kw g hg]; exact t9)),
    fun g hg => (m.old g (h.f.lt g hg).2).trans (h.kf g hg), fun g hg => (m.old g (h.g.lt g hg).2).trans (h.kw g hg), fun j hj => ?_, Nat.le_trans h.hB m.size⟩
  obtain ⟨v, u, l, e1, e2, e3, e4⟩ := h.ent j hj
  exact ⟨v, u, l, e1, e2, e3.mv m (t10 j), e4.mv m t0⟩
theorem BK.c0 (h : BK K w B bb n nf nw vf vw FL WL) : w.cell? ⟨bb, 0, none⟩ = some vf := by unfold World.cell?; rw [h.blk]; rfl
theorem BK.c1 (h : BK K w B bb n nf nw vf vw FL WL) : w.cell? ⟨bb, 1, none⟩ = some vw := by unfold World.cell?; rw [h.blk]; rfl
theorem BK.fz (h : BK K w B bb n nf nw vf vw FL WL) (i : Nat) : w.frozen? ⟨bb, i, none⟩ = false := by unfold World.frozen?; rw [h.blk]; simp
end
theorem info43_ex : ∃ i : TypeInfo, Try.prog.info? 43 = some i ∧ i.zero = some (.slice none 0 0) ∧ i.size = 1 ∧ i.bytes = 24 :=
  ⟨(Try.prog.info? 43).getD default, by kernel_rfl, by kernel_rfl, by kernel_rfl, by kernel_rfl⟩
theorem heap_set5 {w : World} {b : Nat} {x0 x1 x2 x3 x4 : Value} {t : TypeId} (h : w.heap[b]? = some (.cells #[x0, x1, x2, x3, x4] t (0, 0))) (u : Value) :
    (w.setCell ⟨b, 0, none⟩ u).heap[b]? = some (.cells #[u, x1, x2, x3, x4] t (0, 0)) ∧ (w.setCell ⟨b, 1, none⟩ u).heap[b]? = some (.cells #[x0, u, x2, x3, x4] t (0, 0)) ∧ (w.setCell ⟨b, 2, none⟩ u).heap[b]? = some (.cells #[x0, x1, u, x3, x4] t (0, 0)) ∧ (w.setCell ⟨b, 3, none⟩ u).heap[b]? = some (.cells #[x0, x1, x2, u, x4] t (0, 0)) ∧ (w.setCell ⟨b, 4, none⟩ u).heap[b]? = some (.cells #[x0, x1, x2, x3, u] t (0, 0)) := by
  refine ⟨?_, ?_, ?_, ?_, ?_⟩ <;> (unfold World.setCell; simp [Array.getElem?_modify, h])
/-- a row of lists, whose block bears the tag t, grown by two -/
theorem app43 {K : Nat → Nat} {w : World} {B n t b : Nat} {v y0 y1 : Value} {XL : List Value} (h : w.ownsRow B 43 1 v n XL) (hB : B ≤ w.heap.size) (hk : ∀ g, v.ownBlock = some g → K g = t) (hb : w.heap[b]? = some (.cells #[y0, y1] 43 (0, 0))) (h0 : y0.oneCell' = true) (h1 : y1.oneCell' = true) (hn : n ≤ 100000000000) :
    ∃ g cap w', (∀ ty, (Builtin.append_ #[32, 32] ty #[v, .slice (some ⟨b, 0, none⟩) 2 2]).run Try.prog w = .ok (.slice (some ⟨g, 0, none⟩) (n + 2) cap) w') ∧ w'.ownsRow B 43 1 (.slice (some ⟨g, 0, none⟩) (n + 2) cap) (n + 2) (XL ++ [y0, y1]) ∧ Mv (fun x => x = t) w w' K (ext w K (fun _ => t)) ∧ ext w K (fun _ => t) g = t := by
  obtain ⟨i, hi, hz, hs, hby⟩ := info43_ex
  obtain ⟨g, cap, w', hr, ho, hg, hat, hlt⟩ := run_append_lies (P := Try.prog) w 32 0 B 43 i _ 1 24 Try.underlying32 hi hz hs hby rfl (by decide) v n XL h ⟨b, 0, none⟩ 2 2 [y0, y1] rfl (World.news_of_block hb) (by simp [h0, h1]) (by omega) (by unfold maxLen; omega) (by omega) hB w.heap.size rfl
  refine ⟨g, cap, w', fun ty => hr, ho, ⟨hg.os, hg.tape, hg.output, hg.size, fun _ hb => ext_old hb, fun k hk2 ht => hg.block k hk2 (fun e => ht (hk k e.symm))⟩, ?_⟩
  rcases hat with e | e
  · have := (h.lt g e).2
    rw [ext_old this]; exact hk g e
  · exact ext_new (by omega)
section
variable {K : Nat → Nat} {w : World} {B bb n nf nw b : Nat} {vf vw y0 y1 : Value} {FL WL : List Value}
theorem BK.addF (h : BK K w B bb n nf nw vf vw FL WL) (hn : n ≤ nf) (hb : w.heap[b]? = some (.cells #[y0, y1] 43 (0, 0))) (h0 : y0.oneCell' = true) (h1 : y1.oneCell' = true) (hm : nf ≤ 100000000000) :
    ∃ g cap w', (∀ ty, (Builtin.append_ #[32, 32] ty #[vf, .slice (some ⟨b, 0, none⟩) 2 2]).run Try.prog w = .ok (.slice (some ⟨g, 0, none⟩) (nf + 2) cap) w') ∧ (w'.cell? ⟨bb, 0, none⟩ = some vf ∧ w'.frozen? ⟨bb, 0, none⟩ = false) ∧
      ∃ K', BK K' (w'.setCell ⟨bb, 0, none⟩ (.slice (some ⟨g, 0, none⟩) (nf + 2) cap)) B bb n (nf + 2) nw (.slice (some ⟨g, 0, none⟩) (nf + 2) cap) vw (FL ++ [y0, y1]) WL ∧ Mv (fun x => x = 8 ∨ x = 1) w (w'.setCell ⟨bb, 0, none⟩ (.slice (some ⟨g, 0, none⟩) (nf + 2) cap)) K K' := by
  obtain ⟨g, cap, w', hr, ho, m, hkg⟩ := app43 h.f h.hB h.kf hb h0 h1 hm
  have hbb := m.kept bb h.lt (by rw [h.kb]; omega)
  have hkb := (m.old bb h.lt).trans h.kb
  have m2 : Mv (fun x => x = 8 ∨ x = 1) w (w'.setCell ⟨bb, 0, none⟩ (.slice (some ⟨g, 0, none⟩) (nf + 2) cap)) K (ext w K (fun _ => 8)) := ⟨m.os, m.tape, m.output, by simpa using m.size, m.old, fun k hk ht => by
    rw [Below.heap_setCell _ _ _ k (show k ≠ bb from fun e => ht (by rw [e, h.kb]; exact .inr rfl))]
    exact m.kept k hk (fun e => ht (.inl e))⟩
  have hgb : g ≠ bb := fun e => by rw [e, hkb] at hkg; omega
  refine ⟨g, cap, w', hr, ⟨(World.cell?_of_block (a := ⟨bb, 0, none⟩) hbb).trans h.c0, (World.frozen?_of_block (a := ⟨bb, 0, none⟩) hbb).trans (h.fz 0)⟩, _, ⟨(heap_set5 (hbb.trans h.blk) _).1, hkb, own_block ho (fun k hk => by cases hk; exact Below.heap_setCell _ _ _ _ hgb), own_block h.g (fun k hk => m2.kept k (h.g.lt k hk).2 (by rw [h.kw k hk]; omega)), fun k hk => by cases hk; exact hkg, fun k hk => (m2.old k (h.g.lt k hk).2).trans (h.kw k hk), fun j hj => ?_, Nat.le_trans h.hB m2.size⟩, m2⟩
  obtain ⟨v, u, l, e1, e2, e3, e4⟩ := h.ent j hj
  exact ⟨v, u, l, by rw [List.getElem?_append_left (by rw [h.lenF]; omega)]; exact e1, e2, e3.mv m2 (by omega), e4.mv m2 (by omega)⟩
theorem BK.addW (h : BK K w B bb n nf nw vf vw FL WL) (hn : n ≤ nw) (hb : w.heap[b]? = some (.cells #[y0, y1] 43 (0, 0))) (h0 : y0.oneCell' = true) (h1 : y1.oneCell' = true) (hm : nw ≤ 100000000000) :
    ∃ g cap w', (∀ ty, (Builtin.append_ #[32, 32] ty #[vw, .slice (some ⟨b, 0, none⟩) 2 2]).run Try.prog w = .ok (.slice (some ⟨g, 0, none⟩) (nw + 2) cap) w') ∧ (w'.cell? ⟨bb, 1, none⟩ = some vw ∧ w'.frozen? ⟨bb, 1, none⟩ = false) ∧
      ∃ K', BK K' (w'.setCell ⟨bb, 1, none⟩ (.slice (some ⟨g, 0, none⟩) (nw + 2) cap)) B bb n nf (nw + 2) vf (.slice (some ⟨g, 0, none⟩) (nw + 2) cap) FL (WL ++ [y0, y1]) ∧ Mv (fun x => x = 9 ∨ x = 1) w (w'.setCell ⟨bb, 1, none⟩ (.slice (some ⟨g, 0, none⟩) (nw + 2) cap)) K K' := by
  obtain ⟨g, cap, w', hr, ho, m, hkg⟩ := app43 h.g h.hB h.kw hb h0 h1 hm
  have hbb := m.kept bb h.lt (by rw [h.kb]; omega)
  have hkb := (m.old bb h.lt).trans h.kb
  have m2 : Mv (fun x => x = 9 ∨ x = 1) w (w'.setCell ⟨bb, 1, none⟩ (.slice (some ⟨g, 0, none⟩) (nw + 2) cap)) K (ext w K (fun _ => 9)) := ⟨m.os, m.tape, m.output, by simpa using m.size, m.old, fun k hk ht => by
    rw [Below.heap_setCell _ _ _ k (show k ≠ bb from fun e => ht (by rw [e, h.kb]; exact .inr rfl))]
    exact m.kept k hk (fun e => ht (.inl e))⟩
  have hgb : g ≠ bb := fun e => by rw [e, hkb] at hkg; omega
  refine ⟨g, cap, w', hr, ⟨(World.cell?_of_block (a := ⟨bb, 1, none⟩) hbb).trans h.c1, (World.frozen?_of_block (a := ⟨bb, 1, none⟩) hbb).trans (h.fz 1)⟩, _, ⟨(heap_set5 (hbb.trans h.blk) _).2.1, hkb, own_block h.f (fun k hk => m2.kept k (h.f.lt k hk).2 (by rw [h.kf k hk]; omega)), own_block ho (fun k hk => by cases hk; exact Below.heap_setCell _ _ _ _ hgb), fun k hk => (m2.old k (h.f.lt k hk).2).trans (h.kf k hk), fun k hk => by cases hk; exact hkg, fun j hj => ?_, Nat.le_trans h.hB m2.size⟩, m2⟩
  obtain ⟨v, u, l, e1, e2, e3, e4⟩ := h.ent j hj
  exact ⟨v, u, l, e1, by rw [List.getElem?_append_left (by rw [h.lenW]; omega)]; exact e2, e3.mv m2 (by omega), e4.mv m2 (by omega)⟩
end
end Go.Proofs.Ytlnaejhdnbmmjaa
namespace Go.Proofs.Ytlnaejhdnbmmjaa
open Go.RowKit
/-- the tags that a step on the i-th Airs touches -/
def TS (i : Nat) (t : Nat) : Prop := t = 2 + i ∨ t = 4 + i ∨ t = 1 ∨ t = 8 ∨ t = 9
theorem TS0 {i : Nat} : ¬ TS i 0 := by unfold TS; omega
theorem TS10 {i : Nat} (hi : i < 2) (j : Nat) : ¬ TS i (10 + j) := by unfold TS; omega
/-- what holds within a step -/
structure SB (K0 : Nat → Nat) (w0 : World) (K : Nat → Nat) (w : World) (B i p q bb : Nat) (l : List Pk) (now : Int) (d : List Pk) (tn : Int) (n : Nat) : Prop where
  ap : AP K w B i p q l now d tn
  bk : ∃ vf vw FL WL, BK K w B bb n n n vf vw FL WL
  mv : Mv (TS i) w0 w K0 K
  hi : i < 2
def KB (K : Nat → Nat) (w : World) (b : Nat) (cs : List Value) (t : TypeId) : Prop := Bk w b cs t ∧ K b = 0
theorem KB.mv {i : Nat} {K K' : Nat → Nat} {w w' : World} {b : Nat} {cs : List Value} {t : TypeId} (h : KB K w b cs t) (m : Mv (TS i) w w' K K') : KB K' w' b cs t :=
  ⟨h.1.of (m.kept b h.1.lt (by rw [h.2]; exact TS0)), (m.old b h.1.lt).trans h.2⟩
section
variable {K0 K K' : Nat → Nat} {w0 w w' : World} {B i p q bb n : Nat} {l l' d d' : List Pk} {now now' tn tn' : Int}
theorem SB.to {T : Nat → Prop} (h : SB K0 w0 K w B i p q bb l now d tn n) (ha : AP K' w' B i p q l' now' d' tn') (m : Mv T w w' K K') (ht : ∀ t, T t → t = 2 + i ∨ t = 4 + i) : SB K0 w0 K' w' B i p q bb l' now' d' tn' n ∧ Mv (TS i) w w' K K' := by
  obtain ⟨vf, vw, FL, WL, hb⟩ := h.bk
  have hi := h.hi
  have m2 : Mv (TS i) w w' K K' := m.mono (fun t h => by rcases ht t h with e | e; exact .inl e; exact .inr (.inl e))
  refine ⟨⟨ha, ⟨vf, vw, FL, WL, hb.mv m ?_ ?_ ?_ ?_ ?_⟩, h.mv.trans m2, hi⟩, m2⟩
  · intro h; have := ht _ h; omega
  · intro h; have := ht _ h; omega
  · intro h; have := ht _ h; omega
  · intro h; have := ht _ h; omega
  · intro j h; have := ht _ h; omega
theorem SB.keep (h : SB K0 w0 K w B i p q bb l now d tn n) (hB : Below w.heap.size w w') : ∃ K', SB K0 w0 K' w' B i p q bb l now d tn n ∧ Mv (TS i) w w' K K' ∧ ∀ b, w.heap.size ≤ b → K' b = 0 :=
  ⟨_, (h.to (h.ap.mv (Mv.of_below hB K (fun _ => 0)) id id id) (Mv.of_below hB K (fun _ => 0)) (fun _ h => h.elim)).1, (Mv.of_below hB K (fun _ => 0)).mono (fun _ h => h.elim), fun _ hb => ext_new hb⟩
/-- a block of one's own -/
theorem SB.alloc (h : SB K0 w0 K w B i p q bb l now d tn n) {cs : List Value} {t : TypeId} (hw : w.alloc (.cells cs.toArray t) = w') : ∃ K', SB K0 w0 K' w' B i p q bb l now d tn n ∧ Mv (TS i) w w' K K' ∧ KB K' w' w.heap.size cs t := by
  obtain ⟨K', h1, h2, h3⟩ := h.keep (w' := w') (by rw [← hw]; exact below_new _ _)
  exact ⟨K', h1, h2, by rw [← hw]; exact Bk.new w cs t, h3 _ (Nat.le_refl _)⟩
theorem SB.send (h : SB K0 w0 K w B i p q bb l now d tn n) (x : Pk) : Calls Try.prog 15 #[.pointer (some ⟨p, 0, none⟩), pkA x] w fun e w' => e = .returned (.int .i64 (sendE l x)) ∧ ∃ K', SB K0 w0 K' w' B i p q bb (sendL l x) now d tn n ∧ Mv (TS i) w w' K K' :=
  (h.ap.send x).mono fun _ _ ⟨e1, _, e2, e3⟩ => ⟨e1, _, h.to e2 e3 (fun _ h => .inl h)⟩
theorem SB.dsend (h : SB K0 w0 K w B i p q bb l now d tn n) (x : Pk) : Calls Try.prog 21 #[.pointer (some ⟨q, 0, none⟩), pkA x] w fun e w' => e = .returned (.int .i64 (sendE d x)) ∧ ∃ K', SB K0 w0 K' w' B i p q bb l now (sendL d x) tn n ∧ Mv (TS i) w w' K K' :=
  (h.ap.dsend x).mono fun _ _ ⟨e1, _, e2, e3⟩ => ⟨e1, _, h.to e2 e3 (fun _ h => .inr h)⟩
theorem SB.dlv (h : SB K0 w0 K w B i p q bb l now d tn n) (m : Int) : Calls Try.prog 12 #[.pointer (some ⟨p, 0, none⟩), .int .i64 m] w fun e w' => e = .returned (.tuple #[pkA (dlvP l m), .int .i64 (dropE l m)]) ∧ ∃ K', SB K0 w0 K' w' B i p q bb (dropL l m) now d tn n ∧ Mv (TS i) w w' K K' :=
  (h.ap.dlv m).mono fun _ _ ⟨e1, _, e2, e3⟩ => ⟨e1, _, h.to e2 e3 (fun _ h => .inl h)⟩
theorem SB.ddlv (h : SB K0 w0 K w B i p q bb l now d tn n) (m : Int) : Calls Try.prog 22 #[.pointer (some ⟨q, 0, none⟩), .int .i64 m] w fun e w' => e = .returned (.tuple #[pkA (dlvP d m), .int .i64 (dropE d m)]) ∧ ∃ K', SB K0 w0 K' w' B i p q bb l now (dropL d m) tn n ∧ Mv (TS i) w w' K K' :=
  (h.ap.ddlv m).mono fun _ _ ⟨e1, _, e2, e3⟩ => ⟨e1, _, h.to e2 e3 (fun _ h => .inr h)⟩
theorem SB.drp (h : SB K0 w0 K w B i p q bb l now d tn n) (m : Int) : Calls Try.prog 13 #[.pointer (some ⟨p, 0, none⟩), .int .i64 m] w fun e w' => e = .returned (.int .i64 (dropE l m)) ∧ ∃ K', SB K0 w0 K' w' B i p q bb (dropL l m) now d tn n ∧ Mv (TS i) w w' K K' :=
  (h.ap.drp m).mono fun _ _ ⟨e1, _, e2, e3⟩ => ⟨e1, _, h.to e2 e3 (fun _ h => .inl h)⟩
theorem SB.ddrp (h : SB K0 w0 K w B i p q bb l now d tn n) (m : Int) : Calls Try.prog 23 #[.pointer (some ⟨q, 0, none⟩), .int .i64 m] w fun e w' => e = .returned (.int .i64 (dropE d m)) ∧ ∃ K', SB K0 w0 K' w' B i p q bb l now (dropL d m) tn n ∧ Mv (TS i) w w' K K' :=
  (h.ap.ddrp m).mono fun _ _ ⟨e1, _, e2, e3⟩ => ⟨e1, _, h.to e2 e3 (fun _ h => .inr h)⟩
theorem SB.dbl (h : SB K0 w0 K w B i p q bb l now d tn n) (m : Int) : Calls Try.prog 14 #[.pointer (some ⟨p, 0, none⟩), .int .i64 m] w fun e w' => e = .returned (.int .i64 (dblE l m)) ∧ ∃ K', SB K0 w0 K' w' B i p q bb (dblL l m) now d tn n ∧ Mv (TS i) w w' K K' :=
  (h.ap.dbl m).mono fun _ _ ⟨e1, _, e2, e3⟩ => ⟨e1, _, h.to e2 e3 (fun _ h => .inl h)⟩
theorem SB.ddbl (h : SB K0 w0 K w B i p q bb l now d tn n) (m : Int) : Calls Try.prog 24 #[.pointer (some ⟨q, 0, none⟩), .int .i64 m] w fun e w' => e = .returned (.int .i64 (dblE d m)) ∧ ∃ K', SB K0 w0 K' w' B i p q bb l now (dblL d m) tn n ∧ Mv (TS i) w w' K K' :=
  (h.ap.ddbl m).mono fun _ _ ⟨e1, _, e2, e3⟩ => ⟨e1, _, h.to e2 e3 (fun _ h => .inr h)⟩
theorem SB.tick (h : SB K0 w0 K w B i p q bb l now d tn n) (hn : -1000000000000 ≤ now ∧ now ≤ 1000000000000) : Calls Try.prog 20 #[.pointer (some ⟨p, 0, none⟩)] w fun e w' => e = .returned (.int .i64 (now + 1)) ∧ ∃ K', SB K0 w0 K' w' B i p q bb l (now + 1) d tn n ∧ Mv (TS i) w w' K K' :=
  (h.ap.tick hn).mono fun _ _ ⟨e1, _, e2, e3⟩ => ⟨e1, _, h.to e2 e3 (fun _ h => .inl h)⟩
theorem SB.dtick (h : SB K0 w0 K w B i p q bb l now d tn n) (hn : -1000000000000 ≤ tn ∧ tn ≤ 1000000000000) : Calls Try.prog 26 #[.pointer (some ⟨q, 0, none⟩)] w fun e w' => e = .returned (.int .i64 (tn + 1)) ∧ ∃ K', SB K0 w0 K' w' B i p q bb l now d (tn + 1) n ∧ Mv (TS i) w w' K K' :=
  (h.ap.dtick hn).mono fun _ _ ⟨e1, _, e2, e3⟩ => ⟨e1, _, h.to e2 e3 (fun _ h => .inr h)⟩
end
/-- what a step leaves -/
def StepP (K : Nat → Nat) (w w' : World) (B i p q bb : Nat) (now : Int) (n : Nat) : Prop := ∃ K' l' now' n', SB K w K' w' B i p q bb l' now' l' now' n' ∧ now ≤ now' ∧ now' ≤ now + 1 ∧ n' ≤ n + 2

theorem FreeE.row {K : Nat → Nat} {w : World} {B j : Nat} {v : Value} {l : List Pk} (h : FreeE K w B j v l) : PkRow w v l := by
  obtain ⟨_, oa, c, rfl, h2⟩ := h
  rcases h2 with ⟨rfl, _⟩ | ⟨g, rfl, _, h4⟩
  · exact ⟨oa, c, 0, 0, rfl, fun h => by simp at h, ⟨fun i t h => by simp at h, fun i t h => by simp at h, fun i t h => by simp at h⟩⟩
  · exact ⟨_, c, g, 0, rfl, fun _ => rfl, .of_own h4⟩
theorem WasE.row {K : Nat → Nat} {w : World} {u : Value} {l : List Pk} (h : WasE K w u l) : PkRow w u l := by
  obtain ⟨oa, c, g, rfl, h2, h3⟩ := h
  exact ⟨oa, c, g, 0, rfl, fun h0 => (h2 h0).1, h3⟩
theorem own_base {w : World} {B B' : Nat} {e : TypeId} {size : Nat} {v : Value} {n : Nat} {xs : List Value} (h : w.ownsRow B e size v n xs) (hB : B' ≤ B) : w.ownsRow B' e size v n xs := by
  refine ⟨h.1, h.2.imp id ?_⟩
  rintro ⟨g, c, cur, h1, h2, h3⟩
  exact ⟨g, c, cur, h1, Nat.le_trans hB h2, h3⟩
theorem FreeE.fly {K : Nat → Nat} {w w' : World} {B j : Nat} {l : List Pk} {oa : Option Addr} {c : Nat} (h : FlyP w w' l oa c) (hB : B ≤ w.heap.size) (hl : l.length ≤ 1000) : FreeE (ext w K (fun _ => 10 + j)) w' B j (.slice oa l.length c) l := by
  refine ⟨hl, oa, c, rfl, ?_⟩
  rcases h with h | ⟨rfl, h⟩
  · exact .inl h
  · exact .inr ⟨_, rfl, ext_new (Nat.le_refl _), own_base h hB⟩
theorem WasE.fly {K : Nat → Nat} {w w' : World} {l : List Pk} {oa : Option Addr} {c : Nat} (h : FlyP w w' l oa c) : WasE (ext w K (fun _ => 0)) w' (.slice oa l.length c) l := by
  rcases h with ⟨rfl, rfl⟩ | ⟨rfl, h⟩
  · exact ⟨oa, 0, 0, rfl, fun h => by simp at h, ⟨fun i t h => by simp at h, fun i t h => by simp at h, fun i t h => by simp at h⟩⟩
  · exact ⟨_, c, _, rfl, fun _ => ⟨rfl, ext_new (Nat.le_refl _)⟩, .of_own h⟩
theorem SB.fly3 {K0 K : Nat → Nat} {w0 w w2 w3 w4 : World} {B i p q bb n : Nat} {l : List Pk} {now : Int} {o1 o2 o3 : Option Addr} {c1 c2 c3 : Nat} (h : SB K0 w0 K w B i p q bb l now l now n) (f1 : FlyP w w2 l o1 c1) (B1 : Below w.heap.size w w2) (f2 : FlyP w2 w3 l o2 c2) (B2 : Below w2.heap.size w2 w3) (f3 : FlyP w3 w4 l o3 c3) (B3 : Below w3.heap.size w3 w4) :
    ∃ K', AP K' w4 B i p q l now l now ∧ (∃ vf vw FL WL, BK K' w4 B bb n n n vf vw FL WL) ∧ Mv (fun _ => False) w w4 K K' ∧ FreeE K' w4 B n (.slice o1 l.length c1) l ∧ FreeE K' w4 B (n + 1) (.slice o2 l.length c2) l ∧ WasE K' w4 (.slice o3 l.length c3) l := by
  have m1 := Mv.of_below B1 K (fun _ => 10 + n)
  have m2 := Mv.of_below B2 (ext w K (fun _ => 10 + n)) (fun _ => 10 + (n + 1))
  have m3 := Mv.of_below B3 (ext w2 (ext w K (fun _ => 10 + n)) (fun _ => 10 + (n + 1))) (fun _ => 0)
  have m := (m1.trans m2).trans m3
  obtain ⟨vf, vw, FL, WL, hb⟩ := h.bk
  have hl := h.ap.most
  have hB := hb.hB
  exact ⟨_, h.ap.mv m id id id, ⟨vf, vw, FL, WL, hb.mv m id id id id (fun _ => id)⟩, m, ((FreeE.fly f1 hB hl).mv m2 id).mv m3 id, (FreeE.fly f2 (Nat.le_trans hB B1.size) hl).mv m3 id, WasE.fly f3⟩
theorem BK.more {K : Nat → Nat} {w : World} {B bb n : Nat} {vf vw v1 v2 u : Value} {FL WL : List Value} {l : List Pk} (h : BK K w B bb n (n + 2) (n + 2) vf vw (FL ++ [v1, v2]) (WL ++ [u, u])) (hF : FL.length = n) (hW : WL.length = n) (e1 : FreeE K w B n v1 l) (e2 : FreeE K w B (n + 1) v2 l) (e3 : WasE K w u l) : BK K w B bb (n + 2) (n + 2) (n + 2) vf vw (FL ++ [v1, v2]) (WL ++ [u, u]) := by
  refine ⟨h.blk, h.kb, h.f, h.g, h.kf, h.kw, fun j hj => ?_, h.hB⟩
  rcases Nat.lt_or_ge j n with h0 | h0
  · exact h.ent j h0
  · rcases Nat.eq_or_lt_of_le h0 with h0 | h0
    · subst h0
      refine ⟨v1, u, l, ?_, ?_, e1, e3⟩
      · rw [List.getElem?_append_right (by omega), hF]; simp
      · rw [List.getElem?_append_right (by omega), hW]; simp
    · obtain rfl : j = n + 1 := by omega
      refine ⟨v2, u, l, ?_, ?_, e2, e3⟩
      · rw [List.getElem?_append_right (by omega), hF]; simp
      · rw [List.getElem?_append_right (by omega), hW]; simp

set_option maxRecDepth 4000 in
set_option maxHeartbeats 4000000 in
theorem step_send {K : Nat → Nat} {w : World} {B i p q bb n : Nat} {l : List Pk} {now : Int} (on m mn pf pt : Int) (pd : ByteArray) (hS : SB K w K w B i p q bb l now l now n) :
    Calls Try.prog 10 #[.pointer (some ⟨bb, 0, none⟩), .pointer (some ⟨p, 0, none⟩), .pointer (some ⟨q, 0, none⟩), .agg #[.int .i64 1, .int .i64 on, .int .i64 m, .int .i64 mn, .int .i64 pf, .int .i64 pt, .string pd]] w fun e w' => e = .returned (.bool true) ∧ StepP K w w' B i p q bb now n := by
  obtain ⟨w1, hw1⟩ : ∃ x, w.alloc (.cells #[.int .i64 1, .int .i64 on, .int .i64 m, .int .i64 mn, .int .i64 pf, .int .i64 pt, .string pd] 39) = x := ⟨_, rfl⟩
  obtain ⟨K1, hS1, -, hk1⟩ := hS.alloc (cs := [.int .i64 1, .int .i64 on, .int .i64 m, .int .i64 mn, .int .i64 pf, .int .i64 pt, .string pd]) hw1
  have d0 := hk1.1.cell 0 rfl
  have d2 := hk1.1.cell 2 rfl
  have d4 := hk1.1.cell 4 rfl
  have d5 := hk1.1.cell 5 rfl
  have d6 := hk1.1.cell 6 rfl
  have HK1 := hid hk1
  have HS1 := hid hS1
  clear hS hk1 hS1
  have H1 := hid (HS1.out.send ⟨pf, pt, pd⟩)
  clear d2
  go_enter Try.func10, Try.ntmps10
  go_wp2_with fail
  clear hw1 d0 d4 d5 d6
  refine H1.out.mono ?_
  rintro e w2 ⟨rfl, K2, hS2, m2⟩
  have hk2 := HK1.out.mv m2
  have d4 := hk2.1.cell 4 rfl
  have d5 := hk2.1.cell 5 rfl
  have d6 := hk2.1.cell 6 rfl
  have H2 := hid (hS2.dsend ⟨pf, pt, pd⟩)
  generalize sendE l ⟨pf, pt, pd⟩ = E at *
  clear hS2 hk2 m2 H1
  go_wp2_with fail
  refine H2.out.mono ?_
  rintro e w3 ⟨rfl, K3, hS3, m3⟩
  have HS3 := hid hS3
  have hE : (E == E) = true := by simp
  clear hS3 m3 H2 d4 d5 d6
  go_wp2
  go_ret
  exact ⟨rfl, K3, _, _, _, HS3.out, by omega, by omega, by omega⟩

set_option maxRecDepth 4000 in
set_option maxHeartbeats 4000000 in
theorem step_drp {K : Nat → Nat} {w : World} {B i p q bb n : Nat} {l : List Pk} {now : Int} (on m mn pf pt : Int) (pd : ByteArray) (hS : SB K w K w B i p q bb l now l now n) :
    Calls Try.prog 10 #[.pointer (some ⟨bb, 0, none⟩), .pointer (some ⟨p, 0, none⟩), .pointer (some ⟨q, 0, none⟩), .agg #[.int .i64 3, .int .i64 on, .int .i64 m, .int .i64 mn, .int .i64 pf, .int .i64 pt, .string pd]] w fun e w' => e = .returned (.bool true) ∧ StepP K w w' B i p q bb now n := by
  obtain ⟨w1, hw1⟩ : ∃ x, w.alloc (.cells #[.int .i64 3, .int .i64 on, .int .i64 m, .int .i64 mn, .int .i64 pf, .int .i64 pt, .string pd] 39) = x := ⟨_, rfl⟩
  obtain ⟨K1, hS1, -, hk1⟩ := hS.alloc (cs := [.int .i64 3, .int .i64 on, .int .i64 m, .int .i64 mn, .int .i64 pf, .int .i64 pt, .string pd]) hw1
  have d0 := hk1.1.cell 0 rfl
  have d2 := hk1.1.cell 2 rfl
  have d4 := hk1.1.cell 4 rfl
  have d5 := hk1.1.cell 5 rfl
  have d6 := hk1.1.cell 6 rfl
  have HK1 := hid hk1
  have HS1 := hid hS1
  clear hS hk1 hS1
  have H1 := hid (HS1.out.drp m)
  clear d4 d5 d6
  go_enter Try.func10, Try.ntmps10
  go_wp2_with fail
  clear hw1 d0 d2
  refine H1.out.mono ?_
  rintro e w2 ⟨rfl, K2, hS2, m2⟩
  have hk2 := HK1.out.mv m2
  have d2 := hk2.1.cell 2 rfl
  have H2 := hid (hS2.ddrp m)
  generalize dropE l m = E at *
  clear hS2 hk2 m2 H1
  go_wp2_with fail
  refine H2.out.mono ?_
  rintro e w3 ⟨rfl, K3, hS3, m3⟩
  have HS3 := hid hS3
  have hE : (E == E) = true := by simp
  clear hS3 m3 H2 d2
  go_wp2
  go_ret
  exact ⟨rfl, K3, _, _, _, HS3.out, by omega, by omega, by omega⟩

set_option maxRecDepth 4000 in
set_option maxHeartbeats 4000000 in
theorem step_dbl {K : Nat → Nat} {w : World} {B i p q bb n : Nat} {l : List Pk} {now : Int} (on m mn pf pt : Int) (pd : ByteArray) (hS : SB K w K w B i p q bb l now l now n) :
    Calls Try.prog 10 #[.pointer (some ⟨bb, 0, none⟩), .pointer (some ⟨p, 0, none⟩), .pointer (some ⟨q, 0, none⟩), .agg #[.int .i64 4, .int .i64 on, .int .i64 m, .int .i64 mn, .int .i64 pf, .int .i64 pt, .string pd]] w fun e w' => e = .returned (.bool true) ∧ StepP K w w' B i p q bb now n := by
  obtain ⟨w1, hw1⟩ : ∃ x, w.alloc (.cells #[.int .i64 4, .int .i64 on, .int .i64 m, .int .i64 mn, .int .i64 pf, .int .i64 pt, .string pd] 39) = x := ⟨_, rfl⟩
  obtain ⟨K1, hS1, -, hk1⟩ := hS.alloc (cs := [.int .i64 4, .int .i64 on, .int .i64 m, .int .i64 mn, .int .i64 pf, .int .i64 pt, .string pd]) hw1
  have d0 := hk1.1.cell 0 rfl
  have d2 := hk1.1.cell 2 rfl
  have d4 := hk1.1.cell 4 rfl
  have d5 := hk1.1.cell 5 rfl
  have d6 := hk1.1.cell 6 rfl
  have HK1 := hid hk1
  have HS1 := hid hS1
  clear hS hk1 hS1
  have H1 := hid (HS1.out.dbl m)
  clear d4 d5 d6
  go_enter Try.func10, Try.ntmps10
  go_wp2_with fail
  clear hw1 d0 d2
  refine H1.out.mono ?_
  rintro e w2 ⟨rfl, K2, hS2, m2⟩
  have hk2 := HK1.out.mv m2
  have d2 := hk2.1.cell 2 rfl
  have H2 := hid (hS2.ddbl m)
  generalize dblE l m = E at *
  clear hS2 hk2 m2 H1
  go_wp2_with fail
  refine H2.out.mono ?_
  rintro e w3 ⟨rfl, K3, hS3, m3⟩
  have HS3 := hid hS3
  have hE : (E == E) = true := by simp
  clear hS3 m3 H2 d2
  go_wp2
  go_ret
  exact ⟨rfl, K3, _, _, _, HS3.out, by omega, by omega, by omega⟩

set_option maxRecDepth 4000 in
set_option maxHeartbeats 4000000 in
theorem step_dlv {K : Nat → Nat} {w : World} {B i p q bb n : Nat} {l : List Pk} {now : Int} (on m mn pf pt : Int) (pd : ByteArray) (hS : SB K w K w B i p q bb l now l now n) :
    Calls Try.prog 10 #[.pointer (some ⟨bb, 0, none⟩), .pointer (some ⟨p, 0, none⟩), .pointer (some ⟨q, 0, none⟩), .agg #[.int .i64 2, .int .i64 on, .int .i64 m, .int .i64 mn, .int .i64 pf, .int .i64 pt, .string pd]] w fun e w' => e = .returned (.bool true) ∧ StepP K w w' B i p q bb now n := by
  obtain ⟨w1, hw1⟩ : ∃ x, w.alloc (.cells #[.int .i64 2, .int .i64 on, .int .i64 m, .int .i64 mn, .int .i64 pf, .int .i64 pt, .string pd] 39) = x := ⟨_, rfl⟩
  obtain ⟨K1, hS1, -, hk1⟩ := hS.alloc (cs := [.int .i64 2, .int .i64 on, .int .i64 m, .int .i64 mn, .int .i64 pf, .int .i64 pt, .string pd]) hw1
  have d0 := hk1.1.cell 0 rfl
  have d2 := hk1.1.cell 2 rfl
  have d4 := hk1.1.cell 4 rfl
  have d5 := hk1.1.cell 5 rfl
  have d6 := hk1.1.cell 6 rfl
  have HK1 := hid hk1
  have HS1 := hid hS1
  clear hS hk1 hS1
  have H1 := hid (HS1.out.dlv m)
  obtain ⟨x, hx⟩ : ∃ x, dlvP l m = x := ⟨_, rfl⟩
  obtain ⟨E, hE0⟩ : ∃ E, dropE l m = E := ⟨_, rfl⟩
  clear d4 d5 d6
  go_enter Try.func10, Try.ntmps10
  go_wp2_with fail
  clear hw1 d0 d2
  refine H1.out.mono ?_
  rintro e w2 ⟨rfl, K2, hS2, m2⟩
  rw [hx, hE0]
  obtain ⟨w3, hw3⟩ : ∃ y, w2.alloc (.cells #[.int .i64 x.fr, .int .i64 x.to, .string x.da] 37) = y := ⟨_, rfl⟩
  obtain ⟨K3, hS3, m3, hk3⟩ := hS2.alloc (cs := [.int .i64 x.fr, .int .i64 x.to, .string x.da]) hw3
  have hko := (HK1.out.mv m2).mv m3
  have d2 := hko.1.cell 2 rfl
  have HK3 := hid hk3
  have H2 := hid (hS3.ddlv m)
  rw [hx, hE0] at H2
  clear hS2 m2 hS3 m3 hk3 hko H1
  go_wp2_with fail
  clear hw3 d2
  refine H2.out.mono ?_
  rintro e w4 ⟨rfl, K4, hS4, m4⟩
  obtain ⟨w5, hw5⟩ : ∃ y, w4.alloc (.cells #[.int .i64 x.fr, .int .i64 x.to, .string x.da] 37) = y := ⟨_, rfl⟩
  obtain ⟨K5, hS5, m5, hk5⟩ := hS4.alloc (cs := [.int .i64 x.fr, .int .i64 x.to, .string x.da]) hw5
  have hk3 := (HK3.out.mv m4).mv m5
  have a0 := hk3.1.cell 0 rfl
  have a1 := hk3.1.cell 1 rfl
  have a2 := hk3.1.cell 2 rfl
  have b0 := hk5.1.cell 0 rfl
  have b1 := hk5.1.cell 1 rfl
  have b2 := hk5.1.cell 2 rfl
  have hq := fun w => eql37 w x x
  rw [decide_eq_true rfl] at hq
  have hgu := fun w op x y xs ys => guard37n w op x y xs ys
  have hE : (E == E) = true := by simp
  have HS5 := hid hS5
  clear hS4 m4 hS5 m5 hk5 hk3 H2 hx hE0
  go_wp2
  go_ret
  exact ⟨rfl, K5, _, _, _, HS5.out, by omega, by omega, by omega⟩

set_option maxRecDepth 4000 in
set_option maxHeartbeats 4000000 in
theorem step_tick {K : Nat → Nat} {w : World} {B i p q bb n : Nat} {l : List Pk} {now : Int} (on m mn pf pt : Int) (pd : ByteArray) (hS : SB K w K w B i p q bb l now l now n) (hn : 0 ≤ now ∧ now ≤ 100000000000) :
    Calls Try.prog 10 #[.pointer (some ⟨bb, 0, none⟩), .pointer (some ⟨p, 0, none⟩), .pointer (some ⟨q, 0, none⟩), .agg #[.int .i64 6, .int .i64 on, .int .i64 m, .int .i64 mn, .int .i64 pf, .int .i64 pt, .string pd]] w fun e w' => e = .returned (.bool true) ∧ StepP K w w' B i p q bb now n := by
  obtain ⟨w1, hw1⟩ : ∃ x, w.alloc (.cells #[.int .i64 6, .int .i64 on, .int .i64 m, .int .i64 mn, .int .i64 pf, .int .i64 pt, .string pd] 39) = x := ⟨_, rfl⟩
  obtain ⟨K1, hS1, -, hk1⟩ := hS.alloc (cs := [.int .i64 6, .int .i64 on, .int .i64 m, .int .i64 mn, .int .i64 pf, .int .i64 pt, .string pd]) hw1
  have d0 := hk1.1.cell 0 rfl
  have d2 := hk1.1.cell 2 rfl
  have d4 := hk1.1.cell 4 rfl
  have d5 := hk1.1.cell 5 rfl
  have d6 := hk1.1.cell 6 rfl
  have HK1 := hid hk1
  have HS1 := hid hS1
  clear hS hk1 hS1
  have H1 := hid (HS1.out.tick (by omega))
  clear d2 d4 d5 d6
  go_enter Try.func10, Try.ntmps10
  go_wp2_with fail
  clear hw1 d0
  refine H1.out.mono ?_
  rintro e w2 ⟨rfl, K2, hS2, m2⟩
  have H2 := hid (hS2.dtick (by omega))
  obtain ⟨E, hE0⟩ : ∃ E, now + 1 = E := ⟨_, rfl⟩
  rw [hE0] at H2 ⊢
  have HE0 := hid hE0
  clear hS2 m2 H1 hE0
  go_wp2_with fail
  refine H2.out.mono ?_
  rintro e w3 ⟨rfl, K3, hS3, m3⟩
  have H3 := hid hS3.ap.now_
  have HS3 := hid hS3
  have hE : (E == E) = true := by simp
  clear hS3 m3 H2
  go_wp2_with (first | (go_at_call 18; refine H3.out.mono ?_; rintro e w' ⟨rfl, rfl⟩))
  go_ret
  exact ⟨rfl, K3, _, _, _, HS3.out, by have := HE0.out; omega, by have := HE0.out; omega, by omega⟩

set_option maxRecDepth 4000 in
set_option maxHeartbeats 4000000 in
theorem step_now {K : Nat → Nat} {w : World} {B i p q bb n : Nat} {l : List Pk} {now : Int} (kd on m mn pf pt : Int) (pd : ByteArray) (hS : SB K w K w B i p q bb l now l now n) (h1 : (kd == 1) = false) (h2 : (kd == 2) = false) (h3 : (kd == 3) = false) (h4 : (kd == 4) = false) (h5 : (kd == 5) = false) (h6 : (kd == 6) = false) (h7 : (kd == 7) = false) :
    Calls Try.prog 10 #[.pointer (some ⟨bb, 0, none⟩), .pointer (some ⟨p, 0, none⟩), .pointer (some ⟨q, 0, none⟩), .agg #[.int .i64 kd, .int .i64 on, .int .i64 m, .int .i64 mn, .int .i64 pf, .int .i64 pt, .string pd]] w fun e w' => e = .returned (.bool true) ∧ StepP K w w' B i p q bb now n := by
  obtain ⟨w1, hw1⟩ : ∃ x, w.alloc (.cells #[.int .i64 kd, .int .i64 on, .int .i64 m, .int .i64 mn, .int .i64 pf, .int .i64 pt, .string pd] 39) = x := ⟨_, rfl⟩
  obtain ⟨K1, hS1, -, hk1⟩ := hS.alloc (cs := [.int .i64 kd, .int .i64 on, .int .i64 m, .int .i64 mn, .int .i64 pf, .int .i64 pt, .string pd]) hw1
  have d0 := hk1.1.cell 0 rfl
  have d2 := hk1.1.cell 2 rfl
  have d4 := hk1.1.cell 4 rfl
  have d5 := hk1.1.cell 5 rfl
  have d6 := hk1.1.cell 6 rfl
  have HK1 := hid hk1
  have HS1 := hid hS1
  clear hS hk1 hS1
  have H1 := hid HS1.out.ap.now_
  have H2 := hid HS1.out.ap.dnow
  have hE : (now == now) = true := by simp
  clear d2 d4 d5 d6
  go_enter Try.func10, Try.ntmps10
  go_wp2_with (first | (go_at_call 18; refine H1.out.mono ?_; rintro e w' ⟨rfl, hw'⟩; subst hw') | (go_at_call 27; refine H2.out.mono ?_; rintro e w' ⟨rfl, hw'⟩; subst hw'))
  go_ret
  exact ⟨rfl, K1, _, _, _, HS1.out, by omega, by omega, by omega⟩

set_option maxRecDepth 4000 in
set_option maxHeartbeats 4000000 in
theorem step_last {K : Nat → Nat} {w : World} {B i p q bb n : Nat} {l : List Pk} {now : Int} (on m mn pf pt : Int) (pd : ByteArray) (hS : SB K w K w B i p q bb l now l now n) (hm : -9223372036854775808 ≤ m ∧ m ≤ 9223372036854775807) :
    Calls Try.prog 10 #[.pointer (some ⟨bb, 0, none⟩), .pointer (some ⟨p, 0, none⟩), .pointer (some ⟨q, 0, none⟩), .agg #[.int .i64 7, .int .i64 on, .int .i64 m, .int .i64 mn, .int .i64 pf, .int .i64 pt, .string pd]] w fun e w' => e = .returned (.bool true) ∧ StepP K w w' B i p q bb now n := by
  obtain ⟨w1, hw1⟩ : ∃ x, w.alloc (.cells #[.int .i64 7, .int .i64 on, .int .i64 m, .int .i64 mn, .int .i64 pf, .int .i64 pt, .string pd] 39) = x := ⟨_, rfl⟩
  obtain ⟨K1, hS1, -, hk1⟩ := hS.alloc (cs := [.int .i64 7, .int .i64 on, .int .i64 m, .int .i64 mn, .int .i64 pf, .int .i64 pt, .string pd]) hw1
  have d0 := hk1.1.cell 0 rfl
  have d2 := hk1.1.cell 2 rfl
  have d4 := hk1.1.cell 4 rfl
  have d5 := hk1.1.cell 5 rfl
  have d6 := hk1.1.cell 6 rfl
  have HK1 := hid hk1
  have HS1 := hid hS1
  clear hS hk1 hS1
  obtain ⟨va, hDA, -⟩ := HS1.out.ap.da
  obtain ⟨a, ca, rfl, -⟩ := hDA.form
  have e0 := hDA.c0
  have HP := hid (pick_range m 2 (by omega))
  obtain ⟨P, hP⟩ : ∃ P, pickP m 2 = P := ⟨_, rfl⟩
  have H9 : Hid (∀ w, Calls Try.prog 9 #[.int .i64 m, .int .i64 2] w fun e w' => e = .returned (.int .i64 P) ∧ w' = w) := fun w => by
    rw [← hP]; exact pick_any _ _ w hm.1 hm.2 (by omega) (by omega)
  have hPr := HP.out
  rw [hP] at hPr
  have HML := hid HS1.out.ap.most
  generalize hL : l.length = L at *
  have hLL : (L : Int) ≤ 1000000 := by have := HML.out; omega
  clear hDA d4 d5 d6 hP HP
  go_enter Try.func10, Try.ntmps10
  go_wp2_with fail
  clear hw1 d0
  go_quiet (first | (go_at_call 9; with_reducible exact Calls.quiet_of_same (H9.out _)))
  clear e0 d2
  obtain ⟨wq, hwq⟩ : ∃ y, y = w1.drewN nq := ⟨_, rfl⟩
  obtain ⟨Kq, hSq, mq, -⟩ := HS1.out.keep (w' := wq) (by rw [hwq]; exact below_drew (Below.refl _ _) nq)
  rw [← hwq]
  have HKq := hid (HK1.out.mv mq)
  have HSq := hid hSq
  clear hSq mq hwq
  obtain ⟨M, hM⟩ : ∃ M, (L : Int) - 1 + P = M := ⟨_, rfl⟩
  have H1 := hid (HSq.out.dlv M)
  obtain ⟨x, hx⟩ : ∃ x, dlvP l M = x := ⟨_, rfl⟩
  obtain ⟨E, hE0⟩ : ∃ E, dropE l M = E := ⟨_, rfl⟩
  go_wp2_with fail
  clear hLL hPr
  refine H1.out.mono ?_
  rintro e w2 ⟨rfl, K2, hS2, m2⟩
  rw [hx, hE0]
  obtain ⟨w3, hw3⟩ : ∃ y, w2.alloc (.cells #[.int .i64 x.fr, .int .i64 x.to, .string x.da] 37) = y := ⟨_, rfl⟩
  obtain ⟨K3, hS3, m3, hk3⟩ := hS2.alloc (cs := [.int .i64 x.fr, .int .i64 x.to, .string x.da]) hw3
  have HK3 := hid hk3
  have H2 := hid (hS3.ddlv M)
  rw [hx, hE0] at H2
  clear hS2 m2 hS3 m3 hk3 H1
  go_wp2_with fail
  clear hw3
  refine H2.out.mono ?_
  rintro e w4 ⟨rfl, K4, hS4, m4⟩
  obtain ⟨w5, hw5⟩ : ∃ y, w4.alloc (.cells #[.int .i64 x.fr, .int .i64 x.to, .string x.da] 37) = y := ⟨_, rfl⟩
  obtain ⟨K5, hS5, m5, hk5⟩ := hS4.alloc (cs := [.int .i64 x.fr, .int .i64 x.to, .string x.da]) hw5
  have hk3 := (HK3.out.mv m4).mv m5
  have a0 := hk3.1.cell 0 rfl
  have a1 := hk3.1.cell 1 rfl
  have a2 := hk3.1.cell 2 rfl
  have b0 := hk5.1.cell 0 rfl
  have b1 := hk5.1.cell 1 rfl
  have b2 := hk5.1.cell 2 rfl
  have hq := fun w => eql37 w x x
  rw [decide_eq_true rfl] at hq
  have hgu := fun w op x y xs ys => guard37n w op x y xs ys
  have hE : (E == E) = true := by simp
  have HS5 := hid hS5
  clear hS4 m4 hS5 m5 hk5 hk3 H2 hx hE0
  go_wp2
  go_ret
  exact ⟨rfl, K5, _, _, _, HS5.out, by omega, by omega, by omega⟩

set_option maxRecDepth 4000 in
set_option maxHeartbeats 4000000 in
theorem step_fly {K : Nat → Nat} {w : World} {B i p q bb n : Nat} {l : List Pk} {now : Int} (on m mn pf pt : Int) (pd : ByteArray) (hS : SB K w K w B i p q bb l now l now n) (hn : n ≤ 10000000000) :
    Calls Try.prog 10 #[.pointer (some ⟨bb, 0, none⟩), .pointer (some ⟨p, 0, none⟩), .pointer (some ⟨q, 0, none⟩), .agg #[.int .i64 5, .int .i64 on, .int .i64 m, .int .i64 mn, .int .i64 pf, .int .i64 pt, .string pd]] w fun e w' => e = .returned (.bool true) ∧ StepP K w w' B i p q bb now n := by
  obtain ⟨w1, hw1⟩ : ∃ x, w.alloc (.cells #[.int .i64 5, .int .i64 on, .int .i64 m, .int .i64 mn, .int .i64 pf, .int .i64 pt, .string pd] 39) = x := ⟨_, rfl⟩
  obtain ⟨K1, hS1, -, hk1⟩ := hS.alloc (cs := [.int .i64 5, .int .i64 on, .int .i64 m, .int .i64 mn, .int .i64 pf, .int .i64 pt, .string pd]) hw1
  have d0 := hk1.1.cell 0 rfl
  have d2 := hk1.1.cell 2 rfl
  have d4 := hk1.1.cell 4 rfl
  have d5 := hk1.1.cell 5 rfl
  have d6 := hk1.1.cell 6 rfl
  have HK1 := hid hk1
  have HS1 := hid hS1
  clear hS hk1 hS1
  have HF := hid HS1.out.ap.fly
  clear d2 d4 d5 d6
  go_enter Try.func10, Try.ntmps10
  go_wp2_with fail
  clear hw1 d0
  refine HF.out.mono ?_
  rintro e w2 ⟨o1, c1, rfl, f1, B1⟩
  have HF2 : Hid (Calls Try.prog 17 #[.pointer (some ⟨p, 0, none⟩)] w2 fun e w' => ∃ ob cap, e = .returned (.slice ob l.length cap) ∧ FlyP w2 w' l ob cap ∧ Below w2.heap.size w2 w') := by
    obtain ⟨Kx, hx, -⟩ := HS1.out.keep B1
    exact hx.ap.fly
  have HA1 := hid (And.intro f1 B1)
  clear f1 B1 HF
  go_wp2_with fail
  refine HF2.out.mono ?_
  rintro e w3 ⟨o2, c2, rfl, f2, B2⟩
  have HF3 : Hid (Calls Try.prog 25 #[.pointer (some ⟨q, 0, none⟩)] w3 fun e w' => ∃ ob cap, e = .returned (.slice ob l.length cap) ∧ FlyP w3 w' l ob cap ∧ Below w3.heap.size w3 w') := by
    obtain ⟨Kx, hx, -⟩ := HS1.out.keep HA1.out.2
    obtain ⟨Ky, hy, -⟩ := hx.keep B2
    exact hy.ap.dfly
  have HA2 := hid (And.intro f2 B2)
  clear f2 B2 HF2
  go_wp2_with fail
  refine HF3.out.mono ?_
  rintro e w4 ⟨o3, c3, rfl, f3, B3⟩
  obtain ⟨K4, hA4, ⟨vf, vw, FL, WL, hb4⟩, m4, g1, g2, g3⟩ := HS1.out.fly3 HA1.out.1 HA1.out.2 HA2.out.1 HA2.out.2 f3 B3
  have hml := HS1.out.ap.most
  have HM1 := hid (same_any l l _ _ w4 g1.row g3.row (by omega))
  rw [decide_eq_true rfl] at HM1
  have HH4 : Hid (AP K4 w4 B i p q l now l now ∧ BK K4 w4 B bb n n n vf vw FL WL ∧ Mv (fun _ => False) w1 w4 K1 K4 ∧ FreeE K4 w4 B n (.slice o1 l.length c1) l ∧ FreeE K4 w4 B (n + 1) (.slice o2 l.length c2) l ∧ WasE K4 w4 (.slice o3 l.length c3) l) := ⟨hA4, hb4, m4, g1, g2, g3⟩
  have HML := hid hml
  clear hA4 hb4 m4 g1 g2 g3 f3 B3 HF3 hml
  go_wp2_with fail
  refine HM1.out.mono ?_
  rintro e w5 ⟨rfl, n5, hw5⟩
  have HM2 : Hid (Calls Try.prog 16 #[.slice o2 l.length c2, .slice o3 l.length c3] w5 fun e w' => e = .returned (.bool true) ∧ ∃ n, w' = w5.drewN n) := by
    have B5 : Below w4.heap.size w4 w5 := by rw [hw5]; exact below_drew (Below.refl _ _) n5
    have := same_any l l _ _ w5 (HH4.out.2.2.2.2.1.row.below B5) (HH4.out.2.2.2.2.2.row.below B5) (by have := HML.out; omega)
    rwa [decide_eq_true rfl] at this
  have HW5 := hid hw5
  clear hw5 HM1
  go_wp2_with fail
  refine HM2.out.mono ?_
  rintro e w6 ⟨rfl, n6, hw6⟩
  have B6 : Below w4.heap.size w4 w6 := by rw [hw6, HW5.out]; exact below_drew (below_drew (Below.refl _ _) n5) n6
  obtain ⟨w7, hw7⟩ : ∃ y, w6.alloc (.cells #[.slice o1 l.length c1, .slice o2 l.length c2] 43) = y := ⟨_, rfl⟩
  have B7 : Below w4.heap.size w4 w7 := by rw [← hw7]; exact B6.alloc B6.size _
  have hk7 : w7.heap[w6.heap.size]? = some (.cells #[.slice o1 l.length c1, .slice o2 l.length c2] 43 (0, 0)) := by rw [← hw7]; exact heap_alloc_new _ _
  have m7 := Mv.of_below B7 K4 (fun _ => 0)
  have hb7 := HH4.out.2.1.mv m7 id id id id (fun _ => id)
  have c0 := hb7.c0
  have q0 : w6.cell? ⟨bb, 0, none⟩ = some vf := (B6.cell (p := ⟨bb, 0, none⟩) HH4.out.2.1.lt).trans HH4.out.2.1.c0
  obtain ⟨gf, cf, w8, hr8, hc8, K9, hb9, m9⟩ := hb7.addF (Nat.le_refl _) hk7 rfl rfl (by omega)
  obtain ⟨w9, hw9⟩ : ∃ y, w8.setCell ⟨bb, 0, none⟩ (.slice (some ⟨gf, 0, none⟩) (n + 2) cf) = y := ⟨_, rfl⟩
  rw [hw9] at hb9 m9
  obtain ⟨w10, hw10⟩ : ∃ y, w9.alloc (.cells #[.slice o3 l.length c3, .slice o3 l.length c3] 43) = y := ⟨_, rfl⟩
  have B10 : Below w9.heap.size w9 w10 := by rw [← hw10]; exact below_new _ _
  have hk10 : w10.heap[w9.heap.size]? = some (.cells #[.slice o3 l.length c3, .slice o3 l.length c3] 43 (0, 0)) := by rw [← hw10]; exact heap_alloc_new _ _
  have m10 := Mv.of_below B10 K9 (fun _ => 0)
  have hb10 := hb9.mv m10 id id id id (fun _ => id)
  have q1 := hb9.c1
  obtain ⟨gw, cw, w11, hr11, hc11, K12, hb12, m12⟩ := hb10.addW (Nat.le_refl _) hk10 rfl rfl (by omega)
  obtain ⟨w12, hw12⟩ : ∃ y, w11.setCell ⟨bb, 1, none⟩ (.slice (some ⟨gw, 0, none⟩) (n + 2) cw) = y := ⟨_, rfl⟩
  rw [hw12] at hb12 m12
  have HE : Hid (StepP K w w12 B i p q bb now n) := by
    have hi := HS1.out.hi
    have mm : Mv (TS i) w4 w12 K4 K12 := (m7.mono (fun _ h => h.elim)).trans ((m9.mono (fun t h => by unfold TS; omega)).trans ((m10.mono (fun _ h => h.elim)).trans (m12.mono (fun t h => by unfold TS; omega))))
    have m41 : Mv (TS i) w1 w4 K1 K4 := HH4.out.2.2.1.mono (fun _ h => h.elim)
    have mt : Mv (fun x => x = 8 ∨ x = 1 ∨ x = 9) w4 w12 K4 K12 := (m7.mono (fun _ h => h.elim)).trans ((m9.mono (fun t h => by omega)).trans ((m10.mono (fun _ h => h.elim)).trans (m12.mono (fun t h => by omega))))
    refine ⟨K12, l, now, n + 2, ⟨HH4.out.1.mv mt (by omega) (by omega) (by omega), ⟨_, _, _, _, BK.more hb12 HH4.out.2.1.lenF HH4.out.2.1.lenW (HH4.out.2.2.2.1.mv mm (TS10 hi _)) (HH4.out.2.2.2.2.1.mv mm (by have := TS10 hi (n + 1); exact this)) (HH4.out.2.2.2.2.2.mv mm TS0)⟩, (HS1.out.mv.trans m41).trans mm, hi⟩, by omega, by omega, by omega⟩
  have HR8 := hid hr8
  have HR11 := hid hr11
  have z0 := hc8.1
  have zf0 := hc8.2
  have z1 := hc11.1
  have zf1 := hc11.2
  obtain ⟨fa, fc, hvf⟩ : ∃ a c, vf = .slice a n c := by
    rcases HH4.out.2.1.f.2 with ⟨e, e2⟩ | ⟨g2, c2, cur, e, _⟩
    · exact ⟨none, 0, by rw [e, e2]⟩
    · exact ⟨_, c2, e⟩
  obtain ⟨wa, wcc, hvw⟩ : ∃ a c, vw = .slice a n c := by
    rcases HH4.out.2.1.g.2 with ⟨e, e2⟩ | ⟨g2, c2, cur, e, _⟩
    · exact ⟨none, 0, by rw [e, e2]⟩
    · exact ⟨_, c2, e⟩
  subst hvf hvw
  clear hw6 B6 B7 hk7 m7 hb7 hb9 m9 B10 hk10 m10 hb10 hb12 m12 hr8 hr11 hc8 hc11 HM2 HH4 HML
  generalize l.length = L at *
  go_wp2_with (at_builtin; refine Hid.out ?_)
  refine (show Hid _ from ?_)
  refine wpList_app rfl _ _ 32 rfl _ _ _ _ rfl rfl (HR8.out _) ?_
  clear hw7 q0 c0
  go_wp2_with (at_builtin; refine Hid.out ?_)
  refine (show Hid _ from ?_)
  refine wpList_app rfl _ _ 32 rfl _ _ _ _ rfl rfl (HR11.out _) ?_
  clear hw9 hw10 q1 z0 zf0
  go_wp2
  go_ret
  exact ⟨rfl, HE.out⟩
end Go.Proofs.Ytlnaejhdnbmmjaa
