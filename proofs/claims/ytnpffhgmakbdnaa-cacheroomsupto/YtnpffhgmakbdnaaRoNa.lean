/- pick, who, names, config. -/
import Derived.Test.YtnpffhgmakbdnaaRoMn
namespace Go.Proofs.Ytnpffhgmakbdnaa
open Go.RowKit
def pickP (c n : Int) : Int := (if c < 0 then -(c + 1) else c) % n
theorem pick_range (c n : Int) (h : 0 < n) : 0 ≤ pickP c n ∧ pickP c n < n := ⟨Int.emod_nonneg _ (by omega), Int.emod_lt_of_pos _ h⟩
theorem pick_any (c n : Int) (w : World) (h0 : -9223372036854775808 ≤ c) (h1 : c ≤ 9223372036854775807) (hn0 : 1 ≤ n) (hn1 : n ≤ 9223372036854775807) :
    Calls Try.prog 18 #[.int .i64 c, .int .i64 n] w fun e w' => e = .returned (.int .i64 (pickP c n)) ∧ w' = w := by
  unfold pickP
  by_cases hc : c < 0
  · rw [if_pos hc]
    obtain ⟨d, hd⟩ : ∃ d, -(c + 1) = d := ⟨_, rfl⟩
    rw [hd]
    have hd0 : 0 ≤ d := by omega
    have hd1 : d ≤ 9223372036854775807 := by omega
    go_enter Try.func18, Try.ntmps18
    go_wp2
    go_ret
    exact ⟨by rw [← hd]; rfl, rfl⟩
  · rw [if_neg hc]
    go_enter Try.func18, Try.ntmps18
    go_wp2
    go_ret
    exact ⟨rfl, rfl⟩
theorem pickP_in (c n : Int) (hn : 0 < n) : 0 ≤ pickP c n ∧ pickP c n < n := by
  unfold pickP
  split
  · exact ⟨Int.emod_nonneg _ (by omega), Int.emod_lt_of_pos _ hn⟩
  · exact ⟨Int.emod_nonneg _ (by omega), Int.emod_lt_of_pos _ hn⟩

def whA (c : Int) : Int := 65536 + pickP c 8 / 2
def whI (c : Int) : Int := 1 + pickP c 8 % 2
theorem who_any (c : Int) (w : World) (h0 : -9223372036854775808 ≤ c ∧ c ≤ 9223372036854775807) :
    Calls Try.prog 19 #[.int .i64 c] w fun e w' => e = .returned (whoV (whA c) (whI c)) ∧ Below w.heap.size w w' := by
  obtain ⟨n, hn⟩ : ∃ n, pickP c 8 = n := ⟨_, rfl⟩
  have hr := pickP_in c 8 (by omega)
  obtain ⟨wa, hwa⟩ : ∃ wa, w.alloc (.cells #[.int .i64 0, .int .i64 0] 37) = wa := ⟨_, rfl⟩
  obtain ⟨A0, hA⟩ : ∃ A0, w.heap.size = A0 := ⟨_, rfl⟩
  have kb : wa.heap[A0]? = some (.cells #[.int .i64 0, .int .i64 0] 37) := by rw [← hwa, ← hA]; exact (MapKept.heap_alloc w _).1
  have B0 : Below A0 w wa := by rw [← hwa, ← hA]; exact below_box _ _
  have H := hid (pick_any c 8 wa h0.1 h0.2 (by omega) (by omega))
  unfold whA whI
  rw [hn] at H hr ⊢
  obtain ⟨x, hx⟩ : ∃ x, 65536 + n / 2 = x := ⟨_, rfl⟩
  obtain ⟨y, hy⟩ : ∃ y, 1 + n % 2 = y := ⟨_, rfl⟩
  have e1 : n.tdiv 2 = n / 2 := Int.tdiv_eq_ediv_of_nonneg hr.1
  have e2 : n.tmod 2 = n % 2 := Int.tmod_eq_emod_of_nonneg hr.1
  have c0 : wa.cell? ⟨A0, 0, none⟩ = some (.int .i64 0) := by unfold World.cell?; rw [kb]; rfl
  have c1 : wa.cell? ⟨A0, 1, none⟩ = some (.int .i64 0) := by unfold World.cell?; rw [kb]; rfl
  have f0 : wa.frozen? ⟨A0, 0, none⟩ = false := by unfold World.frozen?; rw [kb]; rfl
  have f1 : wa.frozen? ⟨A0, 1, none⟩ = false := by unfold World.frozen?; rw [kb]; rfl
  obtain ⟨wb, hwb⟩ : ∃ wb, (wa.setCell ⟨A0, 0, none⟩ (.int .i64 x)).setCell ⟨A0, 1, none⟩ (.int .i64 y) = wb := ⟨_, rfl⟩
  have kb2 : wb.heap[A0]? = some (.cells #[.int .i64 x, .int .i64 y] 37) := by
    rw [← hwb]; unfold World.setCell; simp [Array.getElem?_modify, kb]
  have q0 : wb.cell? ⟨A0, 0, none⟩ = some (.int .i64 x) := by unfold World.cell?; rw [kb2]; rfl
  have q1 : wb.cell? ⟨A0, 1, none⟩ = some (.int .i64 y) := by unfold World.cell?; rw [kb2]; rfl
  have HB : Hid (Below A0 w wb) := by
    rw [← hwb]
    exact ⟨B0.os, B0.tape, B0.output, by simpa using B0.size, fun b hb => (Below.heap_setCell _ _ _ _ (by simp; omega)).trans ((Below.heap_setCell _ _ _ _ (by simp; omega)).trans (B0.block b (by omega)))⟩
  have hxx : wrap64 (65536 + wrap64 (n / 2)) = x := by unfold wrap64; omega
  have hyy : wrap64 (1 + n.tmod 2) = y := by rw [e2]; unfold wrap64; omega
  rw [hx, hy, hA]
  clear kb B0 kb2 hr
  go_enter Try.func19, Try.ntmps19
  go_wp2_with fail
  refine H.out.mono ?_
  rintro _ _ ⟨rfl, rfl⟩
  clear hwa
  go_wp2
  refine bodyPost_ret (v := whoV x y) (by simp [results, Try.results19, go_sem, q0, q1]) rfl ⟨rfl, HB.out⟩
structure OpR where
  other : Bool
  raw : Bool
  what : Int
  who : Int
  seq : Int
  water : Int
  a : Int
  i : Int
  rep : ByteArray
def In64 (n : Int) : Prop := -9223372036854775808 ≤ n ∧ n ≤ 9223372036854775807
structure OpOk (o : OpR) : Prop where
  who : In64 o.who
  seq : In64 o.seq
  water : In64 o.water
  a : In64 o.a
  i : In64 o.i
abbrev opC (o : OpR) : Array Value := #[.bool o.other, .bool o.raw, .int .i64 o.what, .int .i64 o.who, .int .i64 o.seq, .int .i64 o.water, .int .i64 o.a, .int .i64 o.i, .string o.rep]
def nmA (o : OpR) : Int := if o.raw then o.a else whA o.who
def nmI (o : OpR) : Int := if o.raw then o.i else whI o.who
def nmS (o : OpR) : Int := if o.raw then o.seq else 1 + pickP o.seq 100
def nmW (o : OpR) : Int := if o.raw then o.water else 1 + pickP o.water 100
theorem names_in {o : OpR} (h : OpOk o) : InW (nmA o) (nmI o) ∧ In64 (nmS o) ∧ In64 (nmW o) := by
  have p1 := pickP_in o.who 8 (by omega)
  have p2 := pickP_in o.seq 100 (by omega)
  have p3 := pickP_in o.water 100 (by omega)
  have h1 := h.a; have h2 := h.i; have h3 := h.seq; have h4 := h.water
  unfold nmA nmI nmS nmW whA whI
  unfold In64 at *
  cases o.raw
  · refine ⟨⟨?_, ?_⟩, ?_, ?_⟩ <;> simp <;> omega
  · exact ⟨⟨h1, h2⟩, h3, h4⟩
set_option maxRecDepth 4000 in
theorem names_any (o : OpR) (ho : OpOk o) (w : World) :
    Calls Try.prog 11 #[.agg (opC o)] w fun e w' => e = .returned (.tuple #[whoV (nmA o) (nmI o), .int .i64 (nmS o), .int .i64 (nmW o)]) ∧ Below w.heap.size w w' := by
  obtain ⟨other, raw, what, who, seq, water, a, i, rep⟩ := o
  obtain ⟨w0, hw0⟩ : ∃ w0, w.alloc (.cells #[.bool other, .bool raw, .int .i64 what, .int .i64 who, .int .i64 seq, .int .i64 water, .int .i64 a, .int .i64 i, .string rep] 39) = w0 := ⟨_, rfl⟩
  obtain ⟨A0, hA⟩ : ∃ A0, w.heap.size = A0 := ⟨_, rfl⟩
  obtain ⟨wa, hwa⟩ : ∃ wa, w0.alloc (.cells #[.int .i64 0, .int .i64 0] 37) = wa := ⟨_, rfl⟩
  obtain ⟨A1, hA1⟩ : ∃ A1, w0.heap.size = A1 := ⟨_, rfl⟩
  have kb0 : w0.heap[A0]? = some (.cells #[.bool other, .bool raw, .int .i64 what, .int .i64 who, .int .i64 seq, .int .i64 water, .int .i64 a, .int .i64 i, .string rep] 39) := by rw [← hw0, ← hA]; exact (MapKept.heap_alloc w _).1
  have hlt : A0 < A1 := by rw [← hA1]; exact (Array.getElem?_eq_some_iff.1 kb0).1
  have kb : wa.heap[A0]? = some (.cells #[.bool other, .bool raw, .int .i64 what, .int .i64 who, .int .i64 seq, .int .i64 water, .int .i64 a, .int .i64 i, .string rep] 39) := by rw [← hwa, heap_alloc_old w0 _ (by omega)]; exact kb0
  have ka : wa.heap[A1]? = some (.cells #[.int .i64 0, .int .i64 0] 37) := by rw [← hwa, ← hA1]; exact (MapKept.heap_alloc w0 _).1
  have B0 : Below A0 w wa := by
    rw [← hwa, ← hw0, ← hA]
    exact (below_box w _).alloc (by simp) _
  have c1 : wa.cell? ⟨A0, 1, none⟩ = some (.bool raw) := by unfold World.cell?; rw [kb]; rfl
  have c3 : wa.cell? ⟨A0, 3, none⟩ = some (.int .i64 who) := by unfold World.cell?; rw [kb]; rfl
  have c4 : wa.cell? ⟨A0, 4, none⟩ = some (.int .i64 seq) := by unfold World.cell?; rw [kb]; rfl
  have c5 : wa.cell? ⟨A0, 5, none⟩ = some (.int .i64 water) := by unfold World.cell?; rw [kb]; rfl
  have c6 : wa.cell? ⟨A0, 6, none⟩ = some (.int .i64 a) := by unfold World.cell?; rw [kb]; rfl
  have c7 : wa.cell? ⟨A0, 7, none⟩ = some (.int .i64 i) := by unfold World.cell?; rw [kb]; rfl
  have HR : Hid (∀ x y w5, Below A1 wa w5 ∧ w5.heap[A1]? = wa.heap[A1]? → ((w5.setCell ⟨A1, 0, none⟩ (.int .i64 x)).setCell ⟨A1, 1, none⟩ (.int .i64 y)).cell? ⟨A1, 0, none⟩ = some (.int .i64 x) ∧ ((w5.setCell ⟨A1, 0, none⟩ (.int .i64 x)).setCell ⟨A1, 1, none⟩ (.int .i64 y)).cell? ⟨A1, 1, none⟩ = some (.int .i64 y) ∧
      w5.cell? ⟨A1, 0, none⟩ = some (.int .i64 0) ∧ w5.cell? ⟨A1, 1, none⟩ = some (.int .i64 0) ∧ w5.frozen? ⟨A1, 0, none⟩ = false ∧ w5.frozen? ⟨A1, 1, none⟩ = false ∧ (∀ k, ((w5.setCell ⟨A1, 0, none⟩ (.int .i64 x)).setCell ⟨A1, 1, none⟩ (.int .i64 y)).cell? ⟨A0, k, none⟩ = w5.cell? ⟨A0, k, none⟩) ∧ Below A0 w ((w5.setCell ⟨A1, 0, none⟩ (.int .i64 x)).setCell ⟨A1, 1, none⟩ (.int .i64 y))) := by
    rintro x y w5 ⟨hb5, he5⟩
    rw [ka] at he5
    have kb2 : ((w5.setCell ⟨A1, 0, none⟩ (.int .i64 x)).setCell ⟨A1, 1, none⟩ (.int .i64 y)).heap[A1]? = some (.cells #[.int .i64 x, .int .i64 y] 37) := by
      unfold World.setCell; simp [Array.getElem?_modify, he5]
    refine ⟨?_, ?_, ?_, ?_, ?_, ?_, fun k => World.cell?_of_block (a := ⟨A0, k, none⟩) ((Below.heap_setCell _ _ _ _ (by simp; omega)).trans (Below.heap_setCell _ _ _ _ (by simp; omega))), ?_⟩
    · unfold World.cell?; rw [kb2]; rfl
    · unfold World.cell?; rw [kb2]; rfl
    · unfold World.cell?; rw [he5]; rfl
    · unfold World.cell?; rw [he5]; rfl
    · unfold World.frozen?; rw [he5]; rfl
    · unfold World.frozen?; rw [he5]; rfl
    · have b2 := B0.trans (hb5.mono (by omega))
      exact ⟨b2.os, b2.tape, b2.output, by simpa using b2.size, fun b hb => (Below.heap_setCell _ _ _ _ (by simp; omega)).trans ((Below.heap_setCell _ _ _ _ (by simp; omega)).trans (b2.block b (by omega)))⟩
  have HBK := hid (And.intro kb (And.intro ka (And.intro hlt B0)))
  have HOK := hid ho
  clear kb ka hlt B0 kb0 ho
  rw [hA]
  cases raw
  · show Calls Try.prog 11 _ w fun e w' => e = .returned (.tuple #[whoV (whA who) (whI who), .int .i64 (1 + pickP seq 100), .int .i64 (1 + pickP water 100)]) ∧ Below A0 w w'
    have p2 := pickP_in seq 100 (by omega)
    have p3 := pickP_in water 100 (by omega)
    have HP1 : Hid (∀ w', Calls Try.prog 18 #[.int .i64 seq, .int .i64 100] w' fun e w'' => e = .returned (.int .i64 (pickP seq 100)) ∧ w'' = w') := fun w' => pick_any seq 100 w' HOK.out.seq.1 HOK.out.seq.2 (by omega) (by omega)
    have HP2 : Hid (∀ w', Calls Try.prog 18 #[.int .i64 water, .int .i64 100] w' fun e w'' => e = .returned (.int .i64 (pickP water 100)) ∧ w'' = w') := fun w' => pick_any water 100 w' HOK.out.water.1 HOK.out.water.2 (by omega) (by omega)
    have HW : Hid (∀ j, Calls Try.prog 19 #[.int .i64 who] (wa.drewN j) fun e w' => e = .returned (whoV (whA who) (whI who)) ∧ Below wa.heap.size (wa.drewN j) w') := fun j => who_any who (wa.drewN j) HOK.out.who
    generalize pickP seq 100 = ps at *
    generalize pickP water 100 = pw at *
    generalize whA who = xa at *
    generalize whI who = xi at *
    have HS1 : Hid (IntKind.i64.wrap (1 + ps) = 1 + ps) := by show _ = _; rw [← wrap64_is]; unfold wrap64; omega
    have HS2 : Hid (IntKind.i64.wrap (1 + pw) = 1 + pw) := by show _ = _; rw [← wrap64_is]; unfold wrap64; omega
    have s1 : wa.cell? ⟨A0, 3, none⟩ = some (.int .i64 who) ∧ wa.cell? ⟨A0, 4, none⟩ = some (.int .i64 seq) ∧ wa.cell? ⟨A0, 5, none⟩ = some (.int .i64 water) := ⟨c3, c4, c5⟩
    have s2 : ∀ j, (wa.drewN j).cell? ⟨A0, 3, none⟩ = some (.int .i64 who) ∧ (wa.drewN j).cell? ⟨A0, 4, none⟩ = some (.int .i64 seq) ∧ (wa.drewN j).cell? ⟨A0, 5, none⟩ = some (.int .i64 water) := fun j => ⟨c3, c4, c5⟩
    have S7 : Hid (∀ j w5, Below wa.heap.size (wa.drewN j) w5 → (w5.cell? ⟨A0, 3, none⟩ = some (.int .i64 who) ∧ w5.cell? ⟨A0, 4, none⟩ = some (.int .i64 seq) ∧ w5.cell? ⟨A0, 5, none⟩ = some (.int .i64 water)) ∧ Below A1 wa w5 ∧ w5.heap[A1]? = wa.heap[A1]?) := fun j w5 hb => by
      obtain ⟨q1, q2, q3, q4⟩ := HBK.out
      have l1 : A1 < wa.heap.size := (Array.getElem?_eq_some_iff.1 q2).1
      have e1 : w5.heap[A0]? = wa.heap[A0]? := hb.block A0 (by omega)
      have e2 : w5.heap[A1]? = wa.heap[A1]? := hb.block A1 l1
      exact ⟨⟨(World.cell?_of_block (a := ⟨A0, 3, none⟩) e1).trans c3, (World.cell?_of_block (a := ⟨A0, 4, none⟩) e1).trans c4, (World.cell?_of_block (a := ⟨A0, 5, none⟩) e1).trans c5⟩, (show Below wa.heap.size wa w5 from ⟨hb.os, hb.tape, hb.output, hb.size, hb.block⟩).mono (by omega), e2⟩
    clear p2 p3
    go_enter Try.func11, Try.ntmps11
    go_wp2_with fail
    go_region_held3 (fun w' => w'.cell? ⟨A0, 3, none⟩ = some (.int .i64 who) ∧ w'.cell? ⟨A0, 4, none⟩ = some (.int .i64 seq) ∧ w'.cell? ⟨A0, 5, none⟩ = some (.int .i64 water)) (first | with_reducible exact s1 | with_reducible exact s2 _ | with_reducible exact s7 | with_reducible exact s9 | exact s2 1 | exact s7 | exact s9) (first
      | (go_at_call 19
         refine (HW.out _).mono ?_
         rintro e w5 ⟨rfl, hB5⟩
         obtain ⟨s7, hbw⟩ := S7.out _ w5 hB5
         obtain ⟨q0, q1, t0, t1, f0, f1, hk9, hbe⟩ := HR.out xa xi w5 hbw
         have s9 : ((w5.setCell ⟨A1, 0, none⟩ (.int .i64 xa)).setCell ⟨A1, 1, none⟩ (.int .i64 xi)).cell? ⟨A0, 3, none⟩ = some (.int .i64 who) ∧ ((w5.setCell ⟨A1, 0, none⟩ (.int .i64 xa)).setCell ⟨A1, 1, none⟩ (.int .i64 xi)).cell? ⟨A0, 4, none⟩ = some (.int .i64 seq) ∧ ((w5.setCell ⟨A1, 0, none⟩ (.int .i64 xa)).setCell ⟨A1, 1, none⟩ (.int .i64 xi)).cell? ⟨A0, 5, none⟩ = some (.int .i64 water) := ⟨(hk9 3).trans s7.1, (hk9 4).trans s7.2.1, (hk9 5).trans s7.2.2⟩
         have HBE := hid hbe
         clear hB5 hbw hbe hk9)
      | (go_at_call 18
         with_reducible refine (HP1.out _).mono ?_
         rintro _ _ ⟨rfl, rfl⟩)
      | (go_at_call 18
         with_reducible refine (HP2.out _).mono ?_
         rintro _ _ ⟨rfl, rfl⟩))
    rw [HS1.out, HS2.out]
    go_wp2
    refine bodyPost_ret (v := .tuple #[whoV xa xi, .int .i64 (1 + ps), .int .i64 (1 + pw)]) (by simp [results, Try.results11, go_sem, q0, q1]) rfl ⟨rfl, HBE.out⟩
  · show Calls Try.prog 11 _ w fun e w' => e = .returned (.tuple #[whoV a i, .int .i64 seq, .int .i64 water]) ∧ Below A0 w w'
    obtain ⟨q0, q1, t0, t1, f0, f1, _, hbe⟩ := HR.out a i wa ⟨Below.refl _ _, rfl⟩
    have HBE := hid hbe
    clear hbe
    go_enter Try.func11, Try.ntmps11
    go_wp2_with fail
    go_region
    all_goals (
      go_wp2
      refine bodyPost_ret (v := .tuple #[whoV a i, .int .i64 seq, .int .i64 water]) (by simp [results, Try.results11, go_sem, q0, q1]) rfl ⟨rfl, HBE.out.drew⟩)
def cfgP (c e b r : Int) : Cf := ⟨(1 + pickP c 64).toNat, (1 + pickP e 64).toNat, (64 + pickP r 1037 + pickP b (1048576 - (64 + pickP r 1037) + 1)).toNat, (64 + pickP r 1037).toNat⟩
theorem cfgP_ok (c e b r : Int) : CfOk (cfgP c e b r) := by
  have h1 := pickP_in c 64 (by omega)
  have h2 := pickP_in e 64 (by omega)
  have h3 := pickP_in r 1037 (by omega)
  have h4 := pickP_in b (1048576 - (64 + pickP r 1037) + 1) (by omega)
  unfold cfgP
  refine ⟨?_, ?_, ?_, ?_⟩ <;> simp only <;> omega
set_option maxRecDepth 4000 in
theorem config_any (c e b r : Int) (w : World) (hc : In64 c) (he : In64 e) (hb : In64 b) (hr : In64 r) :
    Calls Try.prog 10 #[.int .i64 c, .int .i64 e, .int .i64 b, .int .i64 r] w fun x w' => x = .returned (cfV (cfgP c e b r)) ∧ Below w.heap.size w w' := by
  obtain ⟨wa, hwa⟩ : ∃ wa, w.alloc (.cells #[.int .i64 0, .int .i64 0, .int .i64 0, .int .i64 0] 23) = wa := ⟨_, rfl⟩
  obtain ⟨A0, hA⟩ : ∃ A0, w.heap.size = A0 := ⟨_, rfl⟩
  have kb : wa.heap[A0]? = some (.cells #[.int .i64 0, .int .i64 0, .int .i64 0, .int .i64 0] 23) := by rw [← hwa, ← hA]; exact (MapKept.heap_alloc w _).1
  have B0 : Below A0 w wa := by rw [← hwa, ← hA]; exact below_box _ _
  have h1 := pickP_in c 64 (by omega)
  have h2 := pickP_in e 64 (by omega)
  have h3 := pickP_in r 1037 (by omega)
  have H1 := hid (pick_any c 64 wa hc.1 hc.2 (by omega) (by omega))
  have H2 := hid (pick_any e 64 wa he.1 he.2 (by omega) (by omega))
  have H3 := hid (pick_any r 1037 wa hr.1 hr.2 (by omega) (by omega))
  have hg : cfV (cfgP c e b r) = .agg #[.int .i64 (1 + pickP c 64), .int .i64 (1 + pickP e 64), .int .i64 (64 + pickP r 1037 + pickP b (1048576 - (64 + pickP r 1037) + 1)), .int .i64 (64 + pickP r 1037)] := by
    have h4 := pickP_in b (1048576 - (64 + pickP r 1037) + 1) (by omega)
    simp only [cfV, cfgP]
    rw [Int.toNat_of_nonneg (by omega), Int.toNat_of_nonneg (by omega), Int.toNat_of_nonneg (by omega), Int.toNat_of_nonneg (by omega)]
  rw [hg]
  clear hg
  generalize pickP c 64 = pc at *
  generalize pickP e 64 = pe at *
  generalize pickP r 1037 = pr at *
  obtain ⟨z, hz⟩ : ∃ z, 64 + pr = z := ⟨_, rfl⟩
  rw [hz]
  have h4 := pickP_in b (1048576 - z + 1) (by omega)
  obtain ⟨y, hy⟩ : ∃ y, 1048576 - z + 1 = y := ⟨_, rfl⟩
  rw [hy] at h4 ⊢
  have H4 := hid (pick_any b y wa hb.1 hb.2 (by omega) (by omega))
  generalize pickP b y = pb at *
  have hz' : wrap64 (64 + pr) = z := by unfold wrap64; omega
  have hy' : wrap64 (wrap64 (1048576 - z) + 1) = y := by unfold wrap64; omega
  obtain ⟨x1, hx1⟩ : ∃ x, 1 + pc = x := ⟨_, rfl⟩
  obtain ⟨x2, hx2⟩ : ∃ x, 1 + pe = x := ⟨_, rfl⟩
  obtain ⟨x3, hx3⟩ : ∃ x, z + pb = x := ⟨_, rfl⟩
  have e1 : wrap64 (1 + pc) = x1 := by unfold wrap64; omega
  have e2 : wrap64 (1 + pe) = x2 := by unfold wrap64; omega
  have e3 : wrap64 (z + pb) = x3 := by unfold wrap64; omega
  rw [hx1, hx2, hx3, hA]
  have c0 : wa.cell? ⟨A0, 0, none⟩ = some (.int .i64 0) := by unfold World.cell?; rw [kb]; rfl
  have c1 : wa.cell? ⟨A0, 1, none⟩ = some (.int .i64 0) := by unfold World.cell?; rw [kb]; rfl
  have c2 : wa.cell? ⟨A0, 2, none⟩ = some (.int .i64 0) := by unfold World.cell?; rw [kb]; rfl
  have c3 : wa.cell? ⟨A0, 3, none⟩ = some (.int .i64 0) := by unfold World.cell?; rw [kb]; rfl
  have f0 : wa.frozen? ⟨A0, 0, none⟩ = false := by unfold World.frozen?; rw [kb]; rfl
  have f1 : wa.frozen? ⟨A0, 1, none⟩ = false := by unfold World.frozen?; rw [kb]; rfl
  have f2 : wa.frozen? ⟨A0, 2, none⟩ = false := by unfold World.frozen?; rw [kb]; rfl
  have f3 : wa.frozen? ⟨A0, 3, none⟩ = false := by unfold World.frozen?; rw [kb]; rfl
  obtain ⟨wb, hwb⟩ : ∃ wb, (((wa.setCell ⟨A0, 0, none⟩ (.int .i64 x1)).setCell ⟨A0, 1, none⟩ (.int .i64 x2)).setCell ⟨A0, 2, none⟩ (.int .i64 x3)).setCell ⟨A0, 3, none⟩ (.int .i64 z) = wb := ⟨_, rfl⟩
  have kb2 : wb.heap[A0]? = some (.cells #[.int .i64 x1, .int .i64 x2, .int .i64 x3, .int .i64 z] 23) := by
    rw [← hwb]; unfold World.setCell; simp [Array.getElem?_modify, kb]
  have q0 : wb.cell? ⟨A0, 0, none⟩ = some (.int .i64 x1) := by unfold World.cell?; rw [kb2]; rfl
  have q1 : wb.cell? ⟨A0, 1, none⟩ = some (.int .i64 x2) := by unfold World.cell?; rw [kb2]; rfl
  have q2 : wb.cell? ⟨A0, 2, none⟩ = some (.int .i64 x3) := by unfold World.cell?; rw [kb2]; rfl
  have q3 : wb.cell? ⟨A0, 3, none⟩ = some (.int .i64 z) := by unfold World.cell?; rw [kb2]; rfl
  have HB : Hid (Below A0 w wb) := by
    rw [← hwb]
    have ne : ∀ (w : World) (b : Nat) (k : Nat) (v : Value), b < A0 → (w.setCell ⟨A0, k, none⟩ v).heap[b]? = w.heap[b]? := fun w b k v hb => Below.heap_setCell _ _ _ _ (by simp; omega)
    refine ⟨B0.os, B0.tape, B0.output, by simpa using B0.size, fun b hb => ?_⟩
    rw [ne _ _ _ _ (by omega), ne _ _ _ _ (by omega), ne _ _ _ _ (by omega), ne _ _ _ _ (by omega)]
    exact B0.block b (by omega)
  clear kb B0 kb2 h1 h2 h3 h4 hc he hb hr hz hy hx1 hx2 hx3
  go_enter Try.func10, Try.ntmps10
  go_wp2_with fail
  refine H3.out.mono ?_
  rintro _ _ ⟨rfl, rfl⟩
  clear hwa
  go_wp2_with fail
  refine H1.out.mono ?_
  rintro _ _ ⟨rfl, rfl⟩
  go_wp2_with fail
  refine H2.out.mono ?_
  rintro _ _ ⟨rfl, rfl⟩
  go_wp2_with fail
  refine H4.out.mono ?_
  rintro _ _ ⟨rfl, rfl⟩
  go_wp2
  refine bodyPost_ret (v := .agg #[.int .i64 x1, .int .i64 x2, .int .i64 x3, .int .i64 z]) (by simp [results, Try.results10, go_sem, q0, q1, q2, q3]) rfl ⟨rfl, HB.out⟩
end Go.Proofs.Ytnpffhgmakbdnaa
