/- Services: a service is offered to both. -/
import Derived.Test.YtcpjihaicmlmjaaPTd
import Derived.Test.YtcpjihaicmlmjaaPTz
import Derived.Laws.CopyOwn
import Derived.Laws.IdiomCopy
import Derived.Deep.OwnRows
namespace Go.Proofs.Ytcpjihaicmlmjaa
open Go.RowKit
attribute [local go_sem] run_store_func run_store_nilFunc
theorem offerE_same {A L : List Sv} {s s2 : Sv} (h : A.map cor = L.map cor) (hs : cor s = cor s2) (nn : Bool) : offerE A s nn = offerE L s2 nn := by
  have e1 : s.prog = s2.prog := congrArg (·.1) hs
  have e2 : s.vers = s2.vers := congrArg (·.2.1) hs
  have e3 : s.procs = s2.procs := congrArg (·.2.2) hs
  have hlen : A.length = L.length := by have := congrArg List.length h; simpa using this
  unfold offerE mayP
  rw [e1, e2, e3, some_same h, hlen]
theorem took_same {A A' L L' : List Sv} {s s2 : Sv} {c : Int} (h : A.map cor = L.map cor) (hs : cor s = cor s2) (ha : Took A A' s c) (hl : Took L L' s2 c) : A'.map cor = L'.map cor := by
  rcases ha with ⟨h0, rfl⟩ | ⟨h0, oa, ca, rfl⟩
  · rcases hl with ⟨_, rfl⟩ | ⟨h1, _⟩
    · exact h
    · exact absurd h1 h0
  · rcases hl with ⟨h1, _⟩ | ⟨_, ob, cb, rfl⟩
    · exact absurd h0 h1
    · rw [List.map_append, List.map_append, h]
      congr 1
      simp only [List.map_cons, List.map_nil]
      exact congrArg (fun x => [x]) hs
def orig (gs : List Int) (k : Nat) : Int := gs.getD k 0
theorem lend {w w1 : World} {S : Nat} {oa : Option Addr} {ca n : Nat} {gs : List Int} (hn : gs.length = n) (hk : w1.heap[S]? = some (.cells (madeCells #[.int .i64 0] (n + 4)) 3 (0, 0))) (hB : Below w.heap.size w w1) (hS : w.heap.size ≤ S) (hg : GsAt w w.heap.size oa gs) :
    ∃ w2 cs, (∀ ty, (Builtin.copy_ #[32, 32] ty #[.slice (some ⟨S, 0, none⟩) (n + 4) (n + 4), .slice oa n ca]).run Try.prog w1 = .ok (goInt n) w2) ∧ w2.heap[S]? = some (.cells cs 3 (0, 0)) ∧ (∀ k, k < n + 4 → cs[k]? = some (.int .i64 (orig gs k))) ∧ (∀ b, b ≠ S → w2.heap[b]? = w1.heap[b]?) ∧ w2.heap.size = w1.heap.size ∧ Below w.heap.size w w2 := by
  have hs3 : (Try.prog.info? 3).map (·.size) = some 1 := by kernel_rfl
  have hz : ∀ k, k < n + 4 → (madeCells #[(.int .i64 0 : Value)] (n + 4))[k]? = some (.int .i64 0) := fun k hk => by simp [madeCells, hk, Nat.mod_one]
  have hsz : (madeCells #[(.int .i64 0 : Value)] (n + 4)).size = n + 4 := by simp [madeCells]
  by_cases h0 : n = 0
  · subst h0
    obtain rfl : gs = [] := List.eq_nil_of_length_eq_zero hn
    exact ⟨w1, _, fun ty => run_copy_none w1 32 32 ty 3 _ oa _ _ 0 ca Try.underlying32 hs3 (by simp), hk, fun k hk2 => by rw [hz k hk2]; simp [orig], fun _ _ => rfl, rfl, hB⟩
  · obtain ⟨q, off, hoa, hq, hc⟩ := hg (by omega)
    subst hoa
    have hgl : (gvs gs).length = n := by unfold gvs; simp [hn]
    have hm : (gvs gs).length = Nat.min n (n + 4) := by rw [hgl]; exact (Nat.min_eq_left (by omega)).symm
    have key := fun ty => run_copy_row (P := Try.prog) w1 32 32 ty 3 S 0 (n + 4) (n + 4) ⟨q, off, none⟩ n ca (madeCells #[.int .i64 0] (n + 4)) 3 (gvs gs) Try.underlying32 hs3 hk hm (fun j v hj => by
      have hj2 : j < gs.length := by
        have := (List.getElem?_eq_some_iff.1 hj).1
        omega
      rw [Addr.add_lit, cell_of_block (hB.block q hq), hc j hj2]
      unfold gvs at hj
      rw [List.getElem?_map, List.getElem?_eq_getElem hj2] at hj
      simp at hj
      rw [← hj]
      simp [List.getD, List.getElem?_eq_getElem hj2]) (by rw [hgl, hsz]; omega) (fun v hv => by
      unfold gvs at hv
      obtain ⟨g, _, rfl⟩ := List.mem_map.1 hv
      rfl)
    refine ⟨_, _, fun ty => by rw [key, hgl], setRow_heap w1 S _ _ 3 (0, 0) hk, fun k hk2 => ?_, fun b hb => setRow_other w1 S b _ hb, by simp [World.setRow], below_setRow hB hS _⟩
    rw [List.getElem?_toArray, List.take_zero, List.nil_append]
    by_cases hkn : k < n
    · rw [List.getElem?_append_left (by rw [hgl]; exact hkn)]
      unfold gvs orig
      rw [List.getElem?_map, List.getElem?_eq_getElem (by omega), List.getD_eq_getElem?_getD, List.getElem?_eq_getElem (by omega)]
      rfl
    · rw [List.getElem?_append_right (by rw [hgl]; omega), hgl, List.getElem?_drop, show 0 + n + (k - n) = k by omega, Array.getElem?_toList, hz k hk2]
      unfold orig
      rw [List.getD_eq_getElem?_getD, List.getElem?_eq_none (by omega)]
      rfl
theorem cut32 (w : World) (S n : Nat) : (Instr.slice 32 (.slice (some ⟨S, 0, none⟩) (n + 4) (n + 4)) none (some (.int .i64 n)) none).run Try.prog w = .ok (.slice (some ⟨S, 0, none⟩) n (n + 4)) w := by
  obtain ⟨i, hi, _, _, _⟩ := info3
  have a2 : (0 : Int) ≤ n ∧ (n : Int) ≤ ((n + 4 : Nat) : Int) := by omega
  simp [Instr.slice, Instr.sliceBounds, Instr.sliceBound, run_underlying Try.underlying32, sizeOf, typeInfo, hi, asIntOf]
  rfl
set_option maxRecDepth 8000 in
set_option maxHeartbeats 4000000 in
theorem both_any {K : Nat → Nat} {w : World} {t b t2 u2 q τ : Nat} {oa : Option Addr} {cap : Nat} {A L : List Sv} {vv : Value} (h : PR K w t b oa cap A) (g : RR K w t2 u2 q vv L) (hAL : A.map cor = L.map cor)
    (ht : t = 1 ∨ t = 2) (ht2 : t2 = 3 ∨ t2 = 4) (hu2 : u2 = 13 ∨ u2 = 14) (hτ : τ = 0 ∨ τ = 9) (o : OpR) (hg : GsT K w τ o.oa o.procs) (hl : o.procs.length ≤ 17592186044415) :
    Calls Try.prog 8 #[ptr b, ptr q, .agg (opA o)] w fun e w' => ∃ K' oa' cap' A' v' L', e = .returned (.bool true) ∧ PR K' w' t b oa' cap' A' ∧ RR K' w' t2 u2 q v' L' ∧ A'.map cor = L'.map cor ∧ Mv (fun x => x = t ∨ x = t2 ∨ x = u2 ∨ x = 8 ∨ x = 10) w w' K K' := by
  obtain ⟨w0, hw0⟩ : ∃ w0, w.alloc (.cells (opA o) 34) = w0 := ⟨_, rfl⟩
  obtain ⟨S0, hS0⟩ : ∃ S0, w.heap.size = S0 := ⟨_, rfl⟩
  have B0 : Below w.heap.size w w0 := by rw [← hw0]; exact (Below.refl _ _).alloc (Nat.le_refl _) _
  have k0 : w0.heap[S0]? = some (.cells (opA o) 34) := by rw [← hw0, ← hS0]; exact (MapKept.heap_alloc w _).1
  have z0 : w0.heap.size = S0 + 1 := by rw [← hw0, ← hS0]; simp
  obtain ⟨n, hn⟩ : ∃ n, o.procs.length = n := ⟨_, rfl⟩
  have hA : opA o = #[.bool o.other, .bool o.near, .bool o.none, .int .i64 o.what, .int .i64 o.prog, .int .i64 o.vers, .int .i64 o.proc, .slice o.oa n o.cap, .string ⟨o.args.toArray⟩] := by rw [← hn]
  have c7 := (op_cells k0).2.2.2.2.2.2.2.1
  rw [hn] at c7
  obtain ⟨m, hm⟩ : ∃ m : Nat, n + 4 = m := ⟨_, rfl⟩
  have hmk : ∀ w, (Instr.makeSlice 32 (.int .i64 (m : Int)) (.int .i64 (m : Int))).run Try.prog w = .ok (.slice (some ⟨w.heap.size, 0, none⟩) m m) (w.alloc (.cells (madeCells #[.int .i64 0] m) 3)) := fun w =>
    run_make_row' (P := Try.prog) 32 3 (.int .i64 0) 8 Try.underlying32 (by kernel_rfl) rfl .i64 .i64 m (by omega) (by omega) w
  obtain ⟨w1, hw1⟩ : ∃ w1, w0.alloc (.cells (madeCells #[.int .i64 0] m) 3) = w1 := ⟨_, rfl⟩
  obtain ⟨S1, hS1⟩ : ∃ S1, w0.heap.size = S1 := ⟨_, rfl⟩
  have b1 : Below w0.heap.size w0 w1 := by rw [← hw1]; exact (Below.refl _ _).alloc (Nat.le_refl _) _
  have k1 : w1.heap[S1]? = some (.cells (madeCells #[.int .i64 0] m) 3 (0, 0)) := by rw [← hw1, ← hS1]; exact (MapKept.heap_alloc w0 _).1
  have z1 : w1.heap.size = S0 + 2 := by rw [← hw1]; simp [z0]
  have B1 : Below w.heap.size w w1 := B0.trans (b1.mono B0.size)
  have e1 : w1.heap[S0]? = some (.cells (opA o) 34) := (b1.block S0 (by omega)).trans k0
  have c17 := (op_cells e1).2.2.2.2.2.2.2.1
  rw [hn] at c17
  obtain ⟨w2, cs, hcp, k2, hcs, hoth, z2, B2⟩ := lend (ca := o.cap) hn (by rw [hm]; exact k1) B1 (by omega) hg.at_
  rw [hm] at hcp hcs
  have e2 : w2.heap[S0]? = some (.cells (opA o) 34) := (hoth S0 (by omega)).trans e1
  obtain ⟨S3, hS3⟩ : ∃ S3, w2.heap.size = S3 := ⟨_, rfl⟩
  have hS3' : w2.drew.heap.size = S3 := hS3
  obtain ⟨u1, u2', u3, u4, u5, ⟨a1, a2, a3, a4, a5⟩, ⟨x10, x11, x12, x13, x21, x22, x23, x32, x33, x43⟩, ⟨f1, f2, f3, f4⟩, k5, b5, s5⟩ := box4 w2.drew 48 (.int .i64 0) (.int .i64 0) (.slice none 0 0) .nilFunc (.int .i64 o.prog) (.int .i64 o.vers) (.slice (some ⟨S1, 0, none⟩) n m) hd S3 hS3'
  have D2 : Below w.heap.size w w2.drew := ⟨B2.os, B2.tape, B2.output, B2.size, B2.block⟩
  have B5 : Below w.heap.size w u5 := D2.trans (b5.mono D2.size)
  have e2d : w2.drew.heap[S0]? = some (.cells (opA o) 34) := e2
  have e5 : u5.heap[S0]? = some (.cells (opA o) 34) := (b5.block S0 (by omega)).trans e2d
  have bu1 : Below w2.drew.heap.size w2.drew u1 := by rw [← a1]; exact (Below.refl _ _).alloc (Nat.le_refl _) _
  have eu1 : u1.heap[S0]? = some (.cells (opA o) 34) := (bu1.block S0 (by omega)).trans e2d
  have k5o : u5.heap[S1]? = some (.cells cs 3 (0, 0)) := (b5.block S1 (by omega)).trans k2
  obtain ⟨sx, hsx⟩ : ∃ sx : Sv, sx = ⟨o.prog, o.vers, o.procs, some ⟨S1, 0, none⟩, m⟩ := ⟨_, rfl⟩
  obtain ⟨sy, hsy⟩ : ∃ sy : Sv, sy = ⟨o.prog, o.vers, o.procs, o.oa, o.cap⟩ := ⟨_, rfl⟩
  have hco : cor sx = cor sy := by rw [hsx, hsy]; rfl
  -- tags: what is lent bears 8, all else that is new 9
  obtain ⟨N, hN⟩ : ∃ N : Nat → Nat, N = fun b => if b = S1 then 8 else if b = S3 then 10 else 9 := ⟨_, rfl⟩
  have hN8 : N S1 = 8 := by rw [hN]; simp
  have hN9 : N S0 = 9 := by rw [hN]; simp only []; rw [if_neg (by omega), if_neg (by omega)]
  have hN10 : N S3 = 10 := by
    rw [hN]
    show (if S3 = S1 then 8 else if S3 = S3 then 10 else 9) = 10
    rw [if_neg (by omega), if_pos rfl]
  have m5 := Mv.of_below B5 K N
  have HK10 : Hid (ext w K N S3 = 10) := (ext_new (by omega)).trans hN10
  have P5 := h.below B5 N
  have Q5 := g.below B5 N
  have G5 := hg.mv m5 (fun h => h)
  have T0 : TB (ext w K N) u5 9 S0 (.cells (opA o) 34) := ⟨e5, (ext_new (by omega)).trans hN9⟩
  have T1 : TB (ext w K N) u5 8 S1 (.cells cs 3 (0, 0)) := ⟨k5o, (ext_new (by omega)).trans hN8⟩
  have gown : ∀ w', w'.heap[S1]? = some (.cells cs 3 (0, 0)) → GsAt w' w'.heap.size sx.oa sx.procs := fun w' hw' => by
    rw [hsx]
    intro _
    refine ⟨S1, 0, rfl, (Array.getElem?_eq_some_iff.1 hw').1, fun i hi => ?_⟩
    unfold World.cell?
    rw [hw', Nat.zero_add]
    exact hcs i (by simp only [] at hi; omega)
  have hsl : sx.procs.length ≤ 17592186044416 := by rw [hsx]; simp only []; omega
  -- Offer, of the program: with or without a Handle
  have HO : Hid (∀ w', PR (ext w K N) w' t b oa cap A → w'.heap[S1]? = some (.cells cs 3 (0, 0)) → ∀ nn, Calls Try.prog 14 #[ptr b, .agg #[.int .i64 o.prog, .int .i64 o.vers, .slice (some ⟨S1, 0, none⟩) n m, if nn = true then hd else .nilFunc]] w' fun e w'' => ∃ K' oa' cap' A', e = .returned (.int .i64 (offerE A sx nn)) ∧ PR K' w'' t b oa' cap' A' ∧ Mv (fun x => x = t) w' w'' (ext w K N) K' ∧ Took A A' sx (offerE A sx nn)) := fun w' hP hk nn => by
    have hAx : ∀ hv, svA sx hv = #[.int .i64 o.prog, .int .i64 o.vers, .slice (some ⟨S1, 0, none⟩) n m, hv] := fun hv => by rw [hsx, ← hn]
    cases nn
    · have := offer_nil hP sx (gown w' hk) hsl
      rw [hAx] at this
      exact this
    · have := offer_any hP (by omega) sx (gown w' hk) (fun a ha => by rw [hsx] at ha; cases ha; rfl) hsl
      rw [hAx] at this
      exact this
  have HD : Hid (∀ K' w', RR K' w' t2 u2 q vv L → GsT K' w' τ o.oa o.procs → ∀ nn, Calls Try.prog 16 #[ptr q, .agg #[.int .i64 o.prog, .int .i64 o.vers, .slice o.oa n o.cap], .bool nn] w' fun e w'' => ∃ K'' v' L', e = .returned (.int .i64 (offerE A sx nn)) ∧ RR K'' w'' t2 u2 q v' L' ∧ Mv (fun x => x = t2 ∨ x = u2) w' w'' K' K'' ∧ Took L L' sy (offerE A sx nn)) := fun K' w' hR hG nn => by
    have hAy : rvA sy = #[.int .i64 o.prog, .int .i64 o.vers, .slice o.oa n o.cap] := by rw [hsy, ← hn]
    have := doffer_any hR (by omega) (by omega) (by omega) sy nn (by rw [hsy]; exact hG.at_) (by rw [hsy]; simp only []; omega)
    rw [hAy, ← offerE_same hAL hco nn] at this
    exact this
  have HTAG := hid (And.intro ht (And.intro ht2 (And.intro hu2 hτ)))
  have HST := hid (And.intro P5 (And.intro Q5 (And.intro G5 (And.intro T0 (And.intro T1 (m5.mono (fun _ h => h.elim) : Mv (fun x => x = 10) w u5 K (ext w K N)))))))
  have HCS := hid hcs
  have HAL := hid (And.intro hAL hco)
  have HNN := hid (And.intro hn (And.intro hl hm))
  obtain ⟨_, _, _, _, d4, d5, _, d7, _⟩ := op_cells e2d
  obtain ⟨_, _, _, _, y4, y5, _, y7, _⟩ := op_cells eu1
  obtain ⟨_, _, v2, _, v4, v5, _, v7, _⟩ := op_cells e5
  rw [hn] at d7 y7 v7
  have s0 : w2.drew.cell? ⟨S0, 4, none⟩ = some (.int .i64 o.prog) ∧ w2.drew.cell? ⟨S0, 5, none⟩ = some (.int .i64 o.vers) ∧ w2.drew.cell? ⟨S0, 7, none⟩ = some (.slice o.oa n o.cap) := ⟨d4, d5, d7⟩
  have s1 : u1.cell? ⟨S0, 4, none⟩ = some (.int .i64 o.prog) ∧ u1.cell? ⟨S0, 5, none⟩ = some (.int .i64 o.vers) ∧ u1.cell? ⟨S0, 7, none⟩ = some (.slice o.oa n o.cap) := ⟨y4, y5, y7⟩
  have s2 : u5.cell? ⟨S0, 4, none⟩ = some (.int .i64 o.prog) ∧ u5.cell? ⟨S0, 5, none⟩ = some (.int .i64 o.vers) ∧ u5.cell? ⟨S0, 7, none⟩ = some (.slice o.oa n o.cap) := ⟨v4, v5, v7⟩
  have hcut : ∀ w : World, (Instr.slice 32 (.slice (some ⟨S1, 0, none⟩) m m) none (some (.int .i64 n)) none).run Try.prog w = .ok (.slice (some ⟨S1, 0, none⟩) n m) w := fun w => by have := cut32 w S1 n; rw [hm] at this; exact this
  have hb48 := bld48s
  have HK5 := hid k5
  have HE5 := hid (And.intro e5 (And.intro k5o B5))
  have e4 : wrap64 ((n : Int) + 4) = (m : Int) := by rw [← hm]; unfold wrap64; omega
  have HZ := hid (And.intro z0 (And.intro z1 (And.intro z2 s5)))
  clear h g hg hl B0 k0 z0 b1 k1 z1 B1 e1 k2 hoth z2 B2 e2 k5 b5 s5 D2 B5 e2d e5 bu1 eu1 k5o hsx hsy hco hN hN8 hN9 hN10 m5 P5 Q5 G5 T0 T1 gown hsl hcs hAL ht ht2 hu2 hτ hn d4 d5 d7 y4 y5 y7 v4 v5 v7 hm
  rw [hA] at hw0 ⊢
  go_enter Try.func8, Try.ntmps8
  go_wp2_with fail
  go_region_held3 (fun w' => w'.cell? ⟨S0, 4, none⟩ = some (.int .i64 o.prog) ∧ w'.cell? ⟨S0, 5, none⟩ = some (.int .i64 o.vers) ∧ w'.cell? ⟨S0, 7, none⟩ = some (.slice o.oa n o.cap)) (first | exact s0 | exact s1 | exact s2) (fail)
  have p0 : u5.cell? ⟨S3, 0, none⟩ = some (.int .i64 o.prog) := by unfold World.cell?; rw [HK5.out]; rfl
  have p1 : u5.cell? ⟨S3, 1, none⟩ = some (.int .i64 o.vers) := by unfold World.cell?; rw [HK5.out]; rfl
  have p2 : u5.cell? ⟨S3, 2, none⟩ = some (.slice (some ⟨S1, 0, none⟩) n m) := by unfold World.cell?; rw [HK5.out]; rfl
  have p3 : u5.cell? ⟨S3, 3, none⟩ = some hd := by unfold World.cell?; rw [HK5.out]; rfl
  have f5 := op_frozen HK5.out 3
  clear s0 s1 hcut hb48 e4 hmk hcp c17 c7 a1 a2 a3 a4 a5 x10 x11 x12 x13 x21 x22 x23 x32 x33 x43 f1 f2 f3 f4
  cases hno : o.none
  · rw [hno] at v2
    go_wp2_with fail
    refine (HO.out _ HST.out.1 HST.out.2.2.2.2.1.at_ true).mono ?_
    rintro _ w3 ⟨K3, oa3, cap3, A3, rfl, hP3, hM3, hT3⟩
    have HS3 : Hid (PR K3 w3 t b oa3 cap3 A3 ∧ RR K3 w3 t2 u2 q vv L ∧ GsT K3 w3 τ o.oa o.procs ∧ TB K3 w3 9 S0 (.cells (opA o) 34) ∧ TB K3 w3 8 S1 (.cells cs 3 (0, 0)) ∧ Mv (fun x => x = t ∨ x = 10) w w3 K K3) := by
      have hg := HTAG.out
      exact ⟨hP3, HST.out.2.1.mv hM3 (by omega) (by omega) (by omega), HST.out.2.2.1.mv hM3 (by omega), HST.out.2.2.2.1.mv hM3 (by omega), HST.out.2.2.2.2.1.mv hM3 (by omega), (HST.out.2.2.2.2.2.mono (fun _ h => .inr h)).trans (hM3.mono (fun _ h => .inl h))⟩
    have HT3 := hid hT3
    obtain ⟨_, _, l2, _, l4, l5, _, l7, _⟩ := op_cells HS3.out.2.2.2.1.at_
    rw [HNN.out.1] at l7
    rw [hno] at l2
    have HD3 := hid (HD.out K3 w3 HS3.out.2.1 HS3.out.2.2.1 true)
    have hb55 := bld55
    obtain ⟨cc, hcc⟩ : ∃ cc, offerE A sx true = cc := ⟨_, rfl⟩
    rw [hcc] at HD3 HT3 ⊢
    clear hP3 hM3 hT3 hcc
    go_wp2_with fail
    refine HD3.out.mono ?_
    rintro _ w4 ⟨K4, v4', L4, rfl, hP4, hM4, hT4⟩
    have HS4 : Hid (PR K4 w4 t b oa3 cap3 A3 ∧ RR K4 w4 t2 u2 q v4' L4 ∧ A3.map cor = L4.map cor ∧ GsT K4 w4 τ o.oa o.procs ∧ TB K4 w4 9 S0 (.cells (opA o) 34) ∧ TB K4 w4 8 S1 (.cells cs 3 (0, 0)) ∧ Mv (fun x => x = t ∨ x = t2 ∨ x = u2 ∨ x = 8 ∨ x = 10) w w4 K K4) := by
      have hg := HTAG.out
      exact ⟨HS3.out.1.mv hM4 (by omega) (by omega), hP4, took_same HAL.out.1 HAL.out.2 HT3.out hT4, HS3.out.2.2.1.mv hM4 (by omega), HS3.out.2.2.2.1.mv hM4 (by omega), HS3.out.2.2.2.2.1.mv hM4 (by omega), (HS3.out.2.2.2.2.2.mono (fun x h => by omega)).trans (hM4.mono (fun x h => by omega))⟩
    clear hP4 hM4 hT4 HD3 HO HD HS3 HT3 l2 l4 l5 l7
    go_wp2_with fail
    go_loopw [11, 12] (fun okv ix wr => ∃ (j : Nat), okv = .bool true ∧ ix = .int .i64 j ∧ j ≤ m ∧ Hid (∃ ds, wr.heap[S1]? = some (.cells ds 3 (0, 0)) ∧ ∀ k, j ≤ k → k < m → ds[k]? = some (.int .i64 (orig o.procs k))) ∧ Hid (Mv (fun x => x = 8) w4 wr K4 K4)) (fun _ ix _ => m - (intOf ix).toNat)
    case atStart => exact ⟨0, by first | rfl | simp, rfl, by omega, ⟨cs, HS4.out.2.2.2.2.2.1.at_, fun k _ hk => HCS.out k hk⟩, (Mv.refl _ _ _ : Mv (fun x => x = 8) w4 w4 K4 K4)⟩
    case round =>
      obtain ⟨j, rfl, rfl, hj, HDS, HMW⟩ := hrel
      by_cases hlt : j < m
      · obtain ⟨ds, hds, hdk⟩ := HDS.out
        have T0 := HS4.out.2.2.2.2.1.mv HMW.out (by omega)
        obtain ⟨_, _, _, _, _, _, _, l7, _⟩ := op_cells T0.at_
        rw [HNN.out.1] at l7
        have x1 : wr.cell? ⟨S1, j, none⟩ = some (.int .i64 (orig o.procs j)) := by unfold World.cell?; rw [hds]; exact hdk j (Nat.le_refl _) hlt
        have fr : wr.frozen? ⟨S1, j, none⟩ = false := op_frozen hds j
        obtain ⟨x, hx⟩ : ∃ x, orig o.procs j = x := ⟨_, rfl⟩
        rw [hx] at x1
        have j0 : (0 : Int) ≤ (j : Int) := by omega
        have j1 : (j : Int) < (m : Int) := by omega
        have hn14 : m ≤ 100000000000000 := by have := HNN.out; omega
        obtain ⟨w5, hw5⟩ : ∃ w5, wr.setCell ⟨S1, j, none⟩ (.int .i64 (1 + (j : Int))) = w5 := ⟨_, rfl⟩
        have HM5 : Hid (Mv (fun x => x = 8) w4 w5 K4 K4) := by
          rw [← hw5]
          exact HMW.out.trans (Mv.of_set wr K4 ⟨S1, j, none⟩ _ HS4.out.2.2.2.2.2.1.k)
        have HD5 : Hid (∃ ds, w5.heap[S1]? = some (.cells ds 3 (0, 0)) ∧ ∀ k, j + 1 ≤ k → k < m → ds[k]? = some (.int .i64 (orig o.procs k))) := by
          refine ⟨ds.setIfInBounds j (.int .i64 (1 + (j : Int))), ?_, fun k hk1 hk2 => ?_⟩
          · rw [← hw5]; unfold World.setCell; simp [Array.getElem?_modify, hds]
          · rw [Array.getElem?_setIfInBounds_ne (by omega)]
            exact hdk k (by omega) hk2
        by_cases hjn : j < n
        · obtain ⟨q0, off, ho, hq0, _, hc⟩ := (HS4.out.2.2.2.1.mv HMW.out (by have := HTAG.out; omega)) (by have := HNN.out; omega)
          have d1 : wr.cell? ⟨q0, off + j, none⟩ = some (.int .i64 x) := by rw [← hx]; exact hc j (by have := HNN.out; omega)
          rw [ho] at l7
          have jn : (j : Int) < (n : Int) := by omega
          clear hx hds hdk HDS HMW T0 hc
          have hw := wrapJ hlt hn14
          have hw2 : wrap64 (1 + (j : Int)) = 1 + (j : Int) := by rw [Int.add_comm]; exact hw
          clear hn14
          go_wp2
          clear hw2
          go_roundw
          case rel => exact ⟨j + 1, by first | rfl | simp, by first | rfl | (rw [hw]; rfl), hlt, HD5, HM5⟩
          case measure => exact meas (by first | rfl | exact hw) j1
        · obtain rfl : x = 0 := by
            rw [← hx]
            unfold orig
            rw [List.getD_eq_getElem?_getD, List.getElem?_eq_none (by have := HNN.out; omega)]
            rfl
          have jn : ¬ (j : Int) < (n : Int) := by omega
          clear hx hds hdk HDS HMW T0
          have hw := wrapJ hlt hn14
          have hw2 : wrap64 (1 + (j : Int)) = 1 + (j : Int) := by rw [Int.add_comm]; exact hw
          clear hn14
          go_wp2
          clear hw2
          go_roundw
          case rel => exact ⟨j + 1, by first | rfl | simp, by first | rfl | (rw [hw]; rfl), hlt, HD5, HM5⟩
          case measure => exact meas (by first | rfl | exact hw) j1
      · obtain rfl : j = m := by omega
        go_wp2
        go_ret
        have hg := HTAG.out
        exact ⟨K4, oa3, cap3, A3, v4', L4, rfl, HS4.out.1.mv HMW.out (by omega) (by omega), HS4.out.2.1.mv HMW.out (by omega) (by omega) (by omega), HS4.out.2.2.1, HS4.out.2.2.2.2.2.2.trans (HMW.out.mono (fun x h => by omega))⟩
  · rw [hno] at v2
    obtain ⟨u6, hu6⟩ : ∃ u6, u5.setCell ⟨S3, 3, none⟩ .nilFunc = u6 := ⟨_, rfl⟩
    have k6 : u6.heap[S3]? = some (.cells #[.int .i64 o.prog, .int .i64 o.vers, .slice (some ⟨S1, 0, none⟩) n m, .nilFunc] 48) := by rw [← hu6]; unfold World.setCell; simp [Array.getElem?_modify, HK5.out]
    have r0 : u6.cell? ⟨S3, 0, none⟩ = some (.int .i64 o.prog) := by unfold World.cell?; rw [k6]; rfl
    have r1 : u6.cell? ⟨S3, 1, none⟩ = some (.int .i64 o.vers) := by unfold World.cell?; rw [k6]; rfl
    have r2 : u6.cell? ⟨S3, 2, none⟩ = some (.slice (some ⟨S1, 0, none⟩) n m) := by unfold World.cell?; rw [k6]; rfl
    have r3 : u6.cell? ⟨S3, 3, none⟩ = some .nilFunc := by unfold World.cell?; rw [k6]; rfl
    have HS6 : Hid (PR (ext w K N) u6 t b oa cap A ∧ RR (ext w K N) u6 t2 u2 q vv L ∧ GsT (ext w K N) u6 τ o.oa o.procs ∧ TB (ext w K N) u6 9 S0 (.cells (opA o) 34) ∧ TB (ext w K N) u6 8 S1 (.cells cs 3 (0, 0)) ∧ Mv (fun x => x = 10) w u6 K (ext w K N)) := by
      have hg := HTAG.out
      have m6 : Mv (fun x => x = 10) u5 u6 (ext w K N) (ext w K N) := by rw [← hu6]; exact Mv.of_set u5 _ ⟨S3, 3, none⟩ _ HK10.out
      exact ⟨HST.out.1.mv m6 (by omega) (by omega), HST.out.2.1.mv m6 (by omega) (by omega) (by omega), HST.out.2.2.1.mv m6 (by omega), HST.out.2.2.2.1.mv m6 (by omega), HST.out.2.2.2.2.1.mv m6 (by omega), HST.out.2.2.2.2.2.trans m6⟩
    clear k6
    go_wp2_with fail
    refine (HO.out _ HS6.out.1 HS6.out.2.2.2.2.1.at_ false).mono ?_
    rintro _ w3 ⟨K3, oa3, cap3, A3, rfl, hP3, hM3, hT3⟩
    have HS3 : Hid (PR K3 w3 t b oa3 cap3 A3 ∧ RR K3 w3 t2 u2 q vv L ∧ GsT K3 w3 τ o.oa o.procs ∧ TB K3 w3 9 S0 (.cells (opA o) 34) ∧ TB K3 w3 8 S1 (.cells cs 3 (0, 0)) ∧ Mv (fun x => x = t ∨ x = 10) w w3 K K3) := by
      have hg := HTAG.out
      exact ⟨hP3, HS6.out.2.1.mv hM3 (by omega) (by omega) (by omega), HS6.out.2.2.1.mv hM3 (by omega), HS6.out.2.2.2.1.mv hM3 (by omega), HS6.out.2.2.2.2.1.mv hM3 (by omega), (HS6.out.2.2.2.2.2.mono (fun _ h => .inr h)).trans (hM3.mono (fun _ h => .inl h))⟩
    have HT3 := hid hT3
    obtain ⟨_, _, l2, _, l4, l5, _, l7, _⟩ := op_cells HS3.out.2.2.2.1.at_
    rw [HNN.out.1] at l7
    rw [hno] at l2
    have HD3 := hid (HD.out K3 w3 HS3.out.2.1 HS3.out.2.2.1 false)
    have hb55 := bld55
    obtain ⟨cc, hcc⟩ : ∃ cc, offerE A sx false = cc := ⟨_, rfl⟩
    rw [hcc] at HD3 HT3 ⊢
    clear hP3 hM3 hT3 hcc
    go_wp2_with fail
    refine HD3.out.mono ?_
    rintro _ w4 ⟨K4, v4', L4, rfl, hP4, hM4, hT4⟩
    have HS4 : Hid (PR K4 w4 t b oa3 cap3 A3 ∧ RR K4 w4 t2 u2 q v4' L4 ∧ A3.map cor = L4.map cor ∧ GsT K4 w4 τ o.oa o.procs ∧ TB K4 w4 9 S0 (.cells (opA o) 34) ∧ TB K4 w4 8 S1 (.cells cs 3 (0, 0)) ∧ Mv (fun x => x = t ∨ x = t2 ∨ x = u2 ∨ x = 8 ∨ x = 10) w w4 K K4) := by
      have hg := HTAG.out
      exact ⟨HS3.out.1.mv hM4 (by omega) (by omega), hP4, took_same HAL.out.1 HAL.out.2 HT3.out hT4, HS3.out.2.2.1.mv hM4 (by omega), HS3.out.2.2.2.1.mv hM4 (by omega), HS3.out.2.2.2.2.1.mv hM4 (by omega), (HS3.out.2.2.2.2.2.mono (fun x h => by omega)).trans (hM4.mono (fun x h => by omega))⟩
    clear hP4 hM4 hT4 HD3 HO HD HS3 HT3 l2 l4 l5 l7
    go_wp2_with fail
    go_loopw [11, 12] (fun okv ix wr => ∃ (j : Nat), okv = .bool true ∧ ix = .int .i64 j ∧ j ≤ m ∧ Hid (∃ ds, wr.heap[S1]? = some (.cells ds 3 (0, 0)) ∧ ∀ k, j ≤ k → k < m → ds[k]? = some (.int .i64 (orig o.procs k))) ∧ Hid (Mv (fun x => x = 8) w4 wr K4 K4)) (fun _ ix _ => m - (intOf ix).toNat)
    case atStart => exact ⟨0, by first | rfl | simp, rfl, by omega, ⟨cs, HS4.out.2.2.2.2.2.1.at_, fun k _ hk => HCS.out k hk⟩, (Mv.refl _ _ _ : Mv (fun x => x = 8) w4 w4 K4 K4)⟩
    case round =>
      obtain ⟨j, rfl, rfl, hj, HDS, HMW⟩ := hrel
      by_cases hlt : j < m
      · obtain ⟨ds, hds, hdk⟩ := HDS.out
        have T0 := HS4.out.2.2.2.2.1.mv HMW.out (by omega)
        obtain ⟨_, _, _, _, _, _, _, l7, _⟩ := op_cells T0.at_
        rw [HNN.out.1] at l7
        have x1 : wr.cell? ⟨S1, j, none⟩ = some (.int .i64 (orig o.procs j)) := by unfold World.cell?; rw [hds]; exact hdk j (Nat.le_refl _) hlt
        have fr : wr.frozen? ⟨S1, j, none⟩ = false := op_frozen hds j
        obtain ⟨x, hx⟩ : ∃ x, orig o.procs j = x := ⟨_, rfl⟩
        rw [hx] at x1
        have j0 : (0 : Int) ≤ (j : Int) := by omega
        have j1 : (j : Int) < (m : Int) := by omega
        have hn14 : m ≤ 100000000000000 := by have := HNN.out; omega
        obtain ⟨w5, hw5⟩ : ∃ w5, wr.setCell ⟨S1, j, none⟩ (.int .i64 (1 + (j : Int))) = w5 := ⟨_, rfl⟩
        have HM5 : Hid (Mv (fun x => x = 8) w4 w5 K4 K4) := by
          rw [← hw5]
          exact HMW.out.trans (Mv.of_set wr K4 ⟨S1, j, none⟩ _ HS4.out.2.2.2.2.2.1.k)
        have HD5 : Hid (∃ ds, w5.heap[S1]? = some (.cells ds 3 (0, 0)) ∧ ∀ k, j + 1 ≤ k → k < m → ds[k]? = some (.int .i64 (orig o.procs k))) := by
          refine ⟨ds.setIfInBounds j (.int .i64 (1 + (j : Int))), ?_, fun k hk1 hk2 => ?_⟩
          · rw [← hw5]; unfold World.setCell; simp [Array.getElem?_modify, hds]
          · rw [Array.getElem?_setIfInBounds_ne (by omega)]
            exact hdk k (by omega) hk2
        by_cases hjn : j < n
        · obtain ⟨q0, off, ho, hq0, _, hc⟩ := (HS4.out.2.2.2.1.mv HMW.out (by have := HTAG.out; omega)) (by have := HNN.out; omega)
          have d1 : wr.cell? ⟨q0, off + j, none⟩ = some (.int .i64 x) := by rw [← hx]; exact hc j (by have := HNN.out; omega)
          rw [ho] at l7
          have jn : (j : Int) < (n : Int) := by omega
          clear hx hds hdk HDS HMW T0 hc
          have hw := wrapJ hlt hn14
          have hw2 : wrap64 (1 + (j : Int)) = 1 + (j : Int) := by rw [Int.add_comm]; exact hw
          clear hn14
          go_wp2
          clear hw2
          go_roundw
          case rel => exact ⟨j + 1, by first | rfl | simp, by first | rfl | (rw [hw]; rfl), hlt, HD5, HM5⟩
          case measure => exact meas (by first | rfl | exact hw) j1
        · obtain rfl : x = 0 := by
            rw [← hx]
            unfold orig
            rw [List.getD_eq_getElem?_getD, List.getElem?_eq_none (by have := HNN.out; omega)]
            rfl
          have jn : ¬ (j : Int) < (n : Int) := by omega
          clear hx hds hdk HDS HMW T0
          have hw := wrapJ hlt hn14
          have hw2 : wrap64 (1 + (j : Int)) = 1 + (j : Int) := by rw [Int.add_comm]; exact hw
          clear hn14
          go_wp2
          clear hw2
          go_roundw
          case rel => exact ⟨j + 1, by first | rfl | simp, by first | rfl | (rw [hw]; rfl), hlt, HD5, HM5⟩
          case measure => exact meas (by first | rfl | exact hw) j1
      · obtain rfl : j = m := by omega
        go_wp2
        go_ret
        have hg := HTAG.out
        exact ⟨K4, oa3, cap3, A3, v4', L4, rfl, HS4.out.1.mv HMW.out (by omega) (by omega), HS4.out.2.1.mv HMW.out (by omega) (by omega) (by omega), HS4.out.2.2.1, HS4.out.2.2.2.2.2.2.trans (HMW.out.mono (fun x h => by omega))⟩
end Go.Proofs.Ytcpjihaicmlmjaa
