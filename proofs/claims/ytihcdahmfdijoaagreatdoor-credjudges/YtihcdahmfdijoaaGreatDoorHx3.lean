/- A text appended to bytes of one's own: what it yields, and where that lies. The program's Writer: what lies in its blocks; what one laying does. The program's Writer: one laying. -/
import Derived.Test.YtihcdahmfdijoaaGreatDoorHx2
import Derived.Lib.AppendStr
import Derived.Deep.RegionWith
namespace Go.Proofs.YtihcdahmfdijoaaGreatDoor
open Go.RowKit Go.Lib
theorem info5_ex : ∃ i : TypeInfo, Tryz.prog.info? 5 = some i ∧ i.zero = some (.int .u8 0) ∧ i.size = 1 ∧ i.bytes = 1 :=
  ⟨(Tryz.prog.info? 5).getD default, by kernel_rfl, by kernel_rfl, by kernel_rfl, by kernel_rfl⟩

theorem append_at (base : Nat) (v : Value) (n : Nat) (xs : List Value) (s : ByteArray) (w : World) (ty : TypeId) (hown : w.ownsRow base 5 1 v n xs) (hb : n + s.size ≤ 140737488355328) (hbase : base ≤ w.heap.size) :
    ∃ v' w', (Builtin.append_ #[92, 9] ty #[v, .string s]).run Tryz.prog w = .ok v' w' ∧ w'.ownsRow base 5 1 v' (n + s.size) (xs ++ strCells s) ∧ w.grownBy w' v.ownBlock ∧ (v'.ownBlock = v.ownBlock ∨ v'.ownBlock = some w.heap.size) := by
  have h63 : n + s.size ≤ maxLen := Nat.le_trans hb (by decide)
  obtain ⟨info5, info5_is, info5_zero, info5_size, info5_bytes⟩ := info5_ex
  obtain ⟨v', w', hr, h1, h2, h3⟩ := run_append_own_string (P := Tryz.prog) w base 92 9 ty 5 info5 Tryz.underlying92 Tryz.underlying9 info5_is info5_zero info5_size info5_bytes v n xs hown s h63 hb hbase
  refine ⟨v', w', hr, h1, h2, ?_⟩
  have hxl : xs.length = n := by simpa using hown.1
  rcases hown.2 with ⟨rfl, rfl⟩ | ⟨g, cap, cur, rfl, hbg, hg, hnc, hcm, hcs, htake⟩
  · by_cases hm : s.size = 0
    · left
      rw [h3.2 ⟨rfl, hm⟩]
    · right
      have hr2 := run_append_nil_string (P := Tryz.prog) w 92 9 ty 5 info5 (.int .u8 0) Tryz.underlying92 Tryz.underlying9 info5_is info5_zero s (by omega) (by omega) (by rw [info5_bytes]; omega)
      rw [hr2] at hr
      cases hr
      rfl
  · by_cases hroom : n + s.size ≤ cap
    · left
      have hr2 := run_append_room_string (P := Tryz.prog) w 92 9 ty 5 info5 Tryz.underlying92 Tryz.underlying9 info5_is info5_size g n cap cur hg s hroom (by simp at hcs; omega)
      rw [hr2] at hr
      cases hr
      rfl
    · right
      have holds : ∀ j u, xs[j]? = some u → w.cell? ((⟨g, 0, none⟩ : Addr).add j) = some u := hown.cells (g := g) rfl
      have hr2 := run_append_grow_string (P := Tryz.prog) w 92 9 ty 5 info5 (.int .u8 0) Tryz.underlying92 Tryz.underlying9 info5_is info5_zero ⟨g, 0, none⟩ n cap xs (by rw [info5_size]; simpa using hxl) holds s (by omega) (by omega) (by rw [info5_bytes]; exact growslice_fits (by omega) (by omega))
      rw [hr2] at hr
      cases hr
      rfl

/-- The operation, for a walk. -/
theorem wpList_append_at {ops : Array Oper} {rest : List Oper} {o : Oper} {a : Act} {Q : Exit → Act → World → Prop} {w : World} (hgd : o.guard = none) (sl x : Operand)
    (ho : o.op = .call { callee := .builtin .append, args := #[sl, x], argTypes := #[92, 9] })
    (base : Nat) (v : Value) (n : Nat) (xs : List Value) (hs : a.eval sl = v) (hown : w.ownsRow base 5 1 v n xs) (s : ByteArray) (hx : a.eval x = .string s)
    (hb : n + s.size ≤ 140737488355328) (hbase : base ≤ w.heap.size)
    (h : ∀ v' w', w'.ownsRow base 5 1 v' (n + s.size) (xs ++ strCells s) → w.grownBy w' v.ownBlock → (v'.ownBlock = v.ownBlock ∨ v'.ownBlock = some w.heap.size) → wpList Tryz.prog ops Q rest (a.put o.dst v') w') : wpList Tryz.prog ops Q (o :: rest) a w := by
  refine wpList_plain hgd fun K hK => ?_
  obtain ⟨v', w', hr, h2, h3, h4⟩ := append_at base v n xs s w o.type hown hb hbase
  unfold Oper.wp execOp
  simp only [ho, resolve, invoke, builtin, Sem.run_bind, Sem.run_pure, Result.andThen_ok, List.map_toArray, List.map_cons, List.map_nil, hs, hx, hr]
  exact hK _ _ (h v' w' h2 h3 h4)



end Go.Proofs.YtihcdahmfdijoaaGreatDoor
namespace Go.Proofs.YtihcdahmfdijoaaGreatDoor
open Go.RowKit Go.Lib
/-- A Writer of the program's: its block, the bytes that it owns, what was wrong first. -/
structure PW (w : World) (p : Nat) (v : Value) (M : Int) (xs : List Value) (E : Int) : Prop where
  m : w.cell? ⟨p, 0, none⟩ = some (.int .i64 M)
  s : w.cell? ⟨p, 1, none⟩ = some v
  e : w.cell? ⟨p, 2, none⟩ = some (trV E)
  f1 : w.frozen? ⟨p, 1, none⟩ = false
  f2 : w.frozen? ⟨p, 2, none⟩ = false
  own : w.ownsRow (p + 1) 5 1 v xs.length xs

theorem PW.lt {w : World} {p : Nat} {v : Value} {M E : Int} {xs : List Value} (h : PW w p v M xs E) : p < w.heap.size := by
  rcases Nat.lt_or_ge p w.heap.size with h1 | h1
  · exact h1
  · have := h.m
    simp [World.cell?, Array.getElem?_eq_none h1] at this

/-- The program's Fail: two calls in an order that is drawn. -/
theorem pfail_first (p : Nat) (v : Value) (M F : Int) (xs : List Value) (w : World) (h : PW w p v M xs 0) :
    Calls Tryz.prog 59 #[.pointer (some ⟨p, 0, none⟩), .int .i64 F] w fun e w' => e = .returned (.tuple #[]) ∧ ∃ k, w' = (w.drewN k).setCell ⟨p, 2, none⟩ (trV F) := by
  have h2 := h.e
  have h5 := h.f2
  have H1 : Hid (∀ w, Calls Tryz.prog 73 #[.int .i64 F] w fun r w' => r = .returned (trV F) ∧ w' = w) := fun w => faultOf_any F w
  have H2 : Hid (∀ k, Calls Tryz.prog 72 #[.pointer (some ⟨p, 2, none⟩), trV F] (w.drewN k) fun r w' => r = .returned (.tuple #[]) ∧ w' = (w.drewN k).setCell ⟨p, 2, none⟩ (trV F)) := fun k => note_first ⟨p, 2, none⟩ F (w.drewN k) h2 h5
  clear h h2 h5
  go_enter Tryz.func59, Tryz.ntmps59
  go_wp2_with fail
  go_region_with (first | (go_at_call 73; refine (H1.out _).mono ?_; rintro e w' ⟨rfl, rfl⟩) | (go_at_call 72; refine (H2.out 1).mono ?_; rintro e w' ⟨rfl, rfl⟩))
  go_wp2
  first | go_end0 | refine bodyPost_ret (results_none rfl _ _ _) rfl ?_
  exact ⟨rfl, 1, rfl⟩

theorem pfail_later (p : Nat) (v : Value) (M E F : Int) (xs : List Value) (w : World) (h : PW w p v M xs E) (hE : E ≠ 0) :
    Calls Tryz.prog 59 #[.pointer (some ⟨p, 0, none⟩), .int .i64 F] w fun e w' => e = .returned (.tuple #[]) ∧ ∃ k, w' = w.drewN k := by
  have h2 := h.e
  unfold trV at h2
  rw [if_neg hE] at h2
  have H1 : Hid (∀ w, Calls Tryz.prog 73 #[.int .i64 F] w fun r w' => r = .returned (trV F) ∧ w' = w) := fun w => faultOf_any F w
  have H2 : Hid (∀ k, Calls Tryz.prog 72 #[.pointer (some ⟨p, 2, none⟩), trV F] (w.drewN k) fun r w' => r = .returned (.tuple #[]) ∧ w' = w.drewN k) := fun k => note_later ⟨p, 2, none⟩ (trV F) _ (w.drewN k) h2
  clear h h2
  go_enter Tryz.func59, Tryz.ntmps59
  go_wp2_with fail
  go_region_with (first | (go_at_call 73; refine (H1.out _).mono ?_; rintro e w' ⟨rfl, rfl⟩) | (go_at_call 72; refine (H2.out 1).mono ?_; rintro e w' ⟨rfl, rfl⟩))
  go_wp2
  first | go_end0 | refine bodyPost_ret (results_none rfl _ _ _) rfl ?_
  exact ⟨rfl, 1, rfl⟩



end Go.Proofs.YtihcdahmfdijoaaGreatDoor
namespace Go.Proofs.YtihcdahmfdijoaaGreatDoor
open Go.RowKit
/-- How many bytes the first parts have. -/
def tot (ps : List ByteArray) (k : Nat) : Nat := ((ps.take k).map ByteArray.size).sum
theorem tot_zero (ps : List ByteArray) : tot ps 0 = 0 := rfl
theorem tot_succ (ps : List ByteArray) (k : Nat) (h : k < ps.length) : tot ps (k + 1) = tot ps k + (ps.getD k ⟨#[]⟩).size := by
  unfold tot
  rw [List.take_add_one, List.map_append, List.sum_append]
  simp [List.getD, List.getElem?_eq_getElem h]
theorem tot_mono (ps : List ByteArray) (k : Nat) (h : k ≤ ps.length) : tot ps k ≤ tot ps ps.length := by
  have : ∀ d k, k + d = ps.length → tot ps k ≤ tot ps ps.length := by
    intro d
    induction d with
    | zero => intro k hk; rw [← hk]; exact Nat.le_refl _
    | succ d ih =>
      intro k hk
      have h1 := ih (k + 1) (by omega)
      have h2 := tot_succ ps k (by omega)
      omega
  exact this (ps.length - k) k (by omega)

/-- A slice value's form, by what it owns. -/
theorem own_form {w : World} {base : Nat} {v : Value} {n : Nat} {xs : List Value} (h : w.ownsRow base 5 1 v n xs) : ∃ a cap, v = .slice a n cap := by
  rcases h.2 with ⟨rfl, rfl⟩ | ⟨g, cap, cur, rfl, _⟩
  · exact ⟨none, 0, rfl⟩
  · exact ⟨_, cap, rfl⟩

set_option maxRecDepth 4000 in
set_option maxHeartbeats 4000000 in
theorem lay_long (p q : Nat) (v : Value) (M : Int) (xs : List Value) (ps : List ByteArray) (w : World) (h : PW w p v M xs 0) (hc : ∀ j, j < ps.length → w.cell? ⟨q, j, none⟩ = some (.string (ps.getD j ⟨#[]⟩)))
    (hm : ps.length ≤ 100) (hM0 : 0 ≤ M) (hM1 : M ≤ 9223372036854775807) (hT : (tot ps ps.length : Int) ≤ 140737488355328) (hn : (xs.length : Int) ≤ 140737488355328) (hl : M - (xs.length : Int) < (tot ps ps.length : Int)) :
    Calls Tryz.prog 76 #[.pointer (some ⟨p, 0, none⟩), .slice (some ⟨q, 0, none⟩) ps.length ps.length] w fun e w' => e = .returned (.tuple #[]) ∧ ∃ k, w' = (w.drewN k).setCell ⟨p, 2, none⟩ (trV 23) := by
  obtain ⟨a, cap, hv⟩ := own_form h.own
  have H1 : Hid (∀ k, Calls Tryz.prog 59 #[.pointer (some ⟨p, 0, none⟩), .int .i64 23] (w.drewN k) fun e w' => e = .returned (.tuple #[]) ∧ ∃ k2, w' = ((w.drewN k).drewN k2).setCell ⟨p, 2, none⟩ (trV 23)) := fun k =>
    pfail_first p v M 23 xs (w.drewN k) ⟨h.m, h.s, h.e, h.f1, h.f2, h.own⟩
  have H2 : Hid (∀ k, Calls Tryz.prog 42 #[.pointer (some ⟨p, 2, none⟩)] ((w.drewN k).setCell ⟨p, 2, none⟩ (trV 23)) fun r w' => r = .returned (.bool true) ∧ w' = (w.drewN k).setCell ⟨p, 2, none⟩ (trV 23)) := fun k =>
    any_any ⟨p, 2, none⟩ 23 _ (World.cell?_setCell_same _ _ _ (show (w.drewN k).cell? ⟨p, 2, none⟩ = some (trV 0) from h.e))
  have hcm := h.m
  have hcs := h.s
  rw [hv] at hcs
  obtain ⟨T, hTT⟩ : ∃ T : Int, (tot ps ps.length : Int) = T := ⟨_, rfl⟩
  rw [hTT] at hT hl
  have HTT : Hid ((tot ps ps.length : Int) = T) := hTT
  obtain ⟨n, hnn⟩ : ∃ n : Nat, xs.length = n := ⟨_, rfl⟩
  rw [hnn] at hcs hl hn
  obtain ⟨m, hmm⟩ : ∃ m : Nat, ps.length = m := ⟨_, rfl⟩
  have HMM : Hid (ps.length = m) := hmm
  have HC : Hid (∀ j, j < m → w.cell? ⟨q, j, none⟩ = some (.string (ps.getD j ⟨#[]⟩))) := fun j hj => hc j (by rw [hmm]; exact hj)
  rw [hmm] at hm ⊢
  clear h hv hTT hnn hmm hc
  go_enter Tryz.func76, Tryz.ntmps76
  go_wp2_with fail
  go_loop [4, 11] (fun sz ix => ∃ (k : Nat) (Z : Int), ix = .int .i64 k ∧ sz = .int .i64 Z ∧ k ≤ m ∧ 0 ≤ Z ∧ Z ≤ 140737488355328 ∧ Hid (Z = (tot ps k : Int))) (fun _ ix => 200 - (intOf ix).toNat)
  case atStart => exact ⟨0, 0, rfl, rfl, by omega, by omega, by omega, (show (0 : Int) = (tot ps 0 : Int) from by rw [tot_zero]; rfl)⟩
  case round =>
    obtain ⟨k, Z, rfl, rfl, hk, hZ0, hZ1, HZ⟩ := hrel
    by_cases hlt : k < m
    · have hcell := HC.out k hlt
      obtain ⟨t, ht⟩ : ∃ t, ps.getD k ⟨#[]⟩ = t := ⟨_, rfl⟩
      rw [ht] at hcell
      have hsz : Z + (t.size : Int) ≤ 140737488355328 := by
        have h1 := tot_succ ps k (by rw [HMM.out]; exact hlt)
        have h2 := tot_mono ps (k + 1) (by rw [HMM.out]; omega)
        have h3 := HZ.out
        have h4 := HTT.out
        rw [ht] at h1
        omega
      have HZ2 : Hid (Z + (t.size : Int) = (tot ps (k + 1) : Int)) := by
        show Z + (t.size : Int) = (tot ps (k + 1) : Int)
        have h1 := tot_succ ps k (by rw [HMM.out]; exact hlt)
        have h3 := HZ.out
        rw [ht] at h1
        omega
      clear ht hcm hcs
      go_wp2
      go_round
      case rel => exact ⟨k + 1, Z + (t.size : Int), by go_num, rfl, by omega, by omega, hsz, HZ2.out⟩
      case measure => simp [intOf]; omega
    · obtain rfl : k = m := by omega
      obtain rfl : Z = T := by rw [HZ.out, ← HTT.out, HMM.out]
      have hw : IntKind.i64.wrap (M - (n : Int)) = M - (n : Int) := by rw [IntKind.wrap_i64]; omega
      go_wp2_with fail
      go_quiet (fail)
      go_wp2_with fail
      refine (H1.out _).mono ?_
      rintro e w2 ⟨rfl, k2, hw2⟩
      rw [World.drewN_drewN] at hw2
      subst hw2
      go_wp2_with fail
      refine (H2.out _).mono ?_
      rintro e w2 ⟨rfl, rfl⟩
      go_wp2
      first | go_end0 | refine bodyPost_ret (results_none rfl _ _ _) rfl ?_
      exact ⟨rfl, _, rfl⟩



end Go.Proofs.YtihcdahmfdijoaaGreatDoor
