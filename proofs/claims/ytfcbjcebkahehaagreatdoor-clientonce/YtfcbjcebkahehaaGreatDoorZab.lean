/- The program's Writer: what lies in its blocks; what one laying does. The program's Writer: one laying. The program's Writer: one laying, where there is room. The program's Writer: one laying, where something was wrong already. The program's Writer: one laying, whatever stood there; Fail likewise. -/
import Derived.Test.YtfcbjcebkahehaaGreatDoorZaa
import Derived.Deep.RegionWith
namespace Go.Proofs.YtfcbjcebkahehaaGreatDoor
open Go.RowKit Go.Lib
/-- A Writer of the program's: its block, the bytes that it owns, what was wrong first. -/
structure PW (w : World) (p : Nat) (v : Value) (M : Int) (xs : List Value) (E : Int) : Prop where
  m : w.cell? ⟨p, 0, none⟩ = some (.int .i64 M)
  s : w.cell? ⟨p, 1, none⟩ = some v
  e : w.cell? ⟨p, 2, none⟩ = some (trV E)
  f1 : w.frozen? ⟨p, 1, none⟩ = false
  f2 : w.frozen? ⟨p, 2, none⟩ = false
  own : w.ownsRow (p + 1) 5 1 v xs.length xs

theorem PW.lt {w : World} {p : Nat} {v : Value} {M E : Int} {xs : List Value} (h : PW w p v M xs E) : p < w.heap.size := by
  rcases Nat.lt_or_ge p w.heap.size with h1 | h1
  · exact h1
  · have := h.m
    simp [World.cell?, Array.getElem?_eq_none h1] at this

/-- The program's Fail: two calls in an order that is drawn. -/
theorem pfail_first (p : Nat) (v : Value) (M F : Int) (xs : List Value) (w : World) (h : PW w p v M xs 0) :
    Calls Tryz.prog 115 #[.pointer (some ⟨p, 0, none⟩), .int .i64 F] w fun e w' => e = .returned (.tuple #[]) ∧ ∃ k, w' = (w.drewN k).setCell ⟨p, 2, none⟩ (trV F) := by
  have h2 := h.e
  have h5 := h.f2
  have H1 : Hid (∀ w, Calls Tryz.prog 154 #[.int .i64 F] w fun r w' => r = .returned (trV F) ∧ w' = w) := fun w => faultOf_any F w
  have H2 : Hid (∀ k, Calls Tryz.prog 153 #[.pointer (some ⟨p, 2, none⟩), trV F] (w.drewN k) fun r w' => r = .returned (.tuple #[]) ∧ w' = (w.drewN k).setCell ⟨p, 2, none⟩ (trV F)) := fun k => note_first ⟨p, 2, none⟩ F (w.drewN k) h2 h5
  clear h h2 h5
  go_enter Tryz.func115, Tryz.ntmps115
  go_wp2_with fail
  go_region_with (first | (go_at_call 154; refine (H1.out _).mono ?_; rintro e w' ⟨rfl, rfl⟩) | (go_at_call 153; refine (H2.out 1).mono ?_; rintro e w' ⟨rfl, rfl⟩))
  go_wp2
  first | go_end0 | refine bodyPost_ret (results_none rfl _ _ _) rfl ?_
  exact ⟨rfl, 1, rfl⟩

theorem pfail_later (p : Nat) (v : Value) (M E F : Int) (xs : List Value) (w : World) (h : PW w p v M xs E) (hE : E ≠ 0) :
    Calls Tryz.prog 115 #[.pointer (some ⟨p, 0, none⟩), .int .i64 F] w fun e w' => e = .returned (.tuple #[]) ∧ ∃ k, w' = w.drewN k := by
  have h2 := h.e
  unfold trV at h2
  rw [if_neg hE] at h2
  have H1 : Hid (∀ w, Calls Tryz.prog 154 #[.int .i64 F] w fun r w' => r = .returned (trV F) ∧ w' = w) := fun w => faultOf_any F w
  have H2 : Hid (∀ k, Calls Tryz.prog 153 #[.pointer (some ⟨p, 2, none⟩), trV F] (w.drewN k) fun r w' => r = .returned (.tuple #[]) ∧ w' = w.drewN k) := fun k => note_later ⟨p, 2, none⟩ (trV F) _ (w.drewN k) h2
  clear h h2
  go_enter Tryz.func115, Tryz.ntmps115
  go_wp2_with fail
  go_region_with (first | (go_at_call 154; refine (H1.out _).mono ?_; rintro e w' ⟨rfl, rfl⟩) | (go_at_call 153; refine (H2.out 1).mono ?_; rintro e w' ⟨rfl, rfl⟩))
  go_wp2
  first | go_end0 | refine bodyPost_ret (results_none rfl _ _ _) rfl ?_
  exact ⟨rfl, 1, rfl⟩



end Go.Proofs.YtfcbjcebkahehaaGreatDoor
namespace Go.Proofs.YtfcbjcebkahehaaGreatDoor
open Go.RowKit
/-- How many bytes the first parts have. -/
def tot (ps : List ByteArray) (k : Nat) : Nat := ((ps.take k).map ByteArray.size).sum
theorem tot_zero (ps : List ByteArray) : tot ps 0 = 0 := rfl
theorem tot_succ (ps : List ByteArray) (k : Nat) (h : k < ps.length) : tot ps (k + 1) = tot ps k + (ps.getD k ⟨#[]⟩).size := by
  unfold tot
  rw [List.take_add_one, List.map_append, List.sum_append]
  simp [List.getD, List.getElem?_eq_getElem h]
theorem tot_mono (ps : List ByteArray) (k : Nat) (h : k ≤ ps.length) : tot ps k ≤ tot ps ps.length := by
  have : ∀ d k, k + d = ps.length → tot ps k ≤ tot ps ps.length := by
    intro d
    induction d with
    | zero => intro k hk; rw [← hk]; exact Nat.le_refl _
    | succ d ih =>
      intro k hk
      have h1 := ih (k + 1) (by omega)
      have h2 := tot_succ ps k (by omega)
      omega
  exact this (ps.length - k) k (by omega)

/-- A slice value's form, by what it owns. -/
theorem own_form {w : World} {base : Nat} {v : Value} {n : Nat} {xs : List Value} (h : w.ownsRow base 5 1 v n xs) : ∃ a cap, v = .slice a n cap := by
  rcases h.2 with ⟨rfl, rfl⟩ | ⟨g, cap, cur, rfl, _⟩
  · exact ⟨none, 0, rfl⟩
  · exact ⟨_, cap, rfl⟩

set_option maxRecDepth 4000 in
set_option maxHeartbeats 4000000 in
theorem lay_long (p q : Nat) (v : Value) (M : Int) (xs : List Value) (ps : List ByteArray) (w : World) (h : PW w p v M xs 0) (hc : ∀ j, j < ps.length → w.cell? ⟨q, j, none⟩ = some (.string (ps.getD j ⟨#[]⟩)))
    (hm : ps.length ≤ 100) (hM0 : 0 ≤ M) (hM1 : M ≤ 9223372036854775807) (hT : (tot ps ps.length : Int) ≤ 140737488355328) (hn : (xs.length : Int) ≤ 140737488355328) (hl : M - (xs.length : Int) < (tot ps ps.length : Int)) :
    Calls Tryz.prog 156 #[.pointer (some ⟨p, 0, none⟩), .slice (some ⟨q, 0, none⟩) ps.length ps.length] w fun e w' => e = .returned (.tuple #[]) ∧ ∃ k, w' = (w.drewN k).setCell ⟨p, 2, none⟩ (trV 23) := by
  obtain ⟨a, cap, hv⟩ := own_form h.own
  have H1 : Hid (∀ k, Calls Tryz.prog 115 #[.pointer (some ⟨p, 0, none⟩), .int .i64 23] (w.drewN k) fun e w' => e = .returned (.tuple #[]) ∧ ∃ k2, w' = ((w.drewN k).drewN k2).setCell ⟨p, 2, none⟩ (trV 23)) := fun k =>
    pfail_first p v M 23 xs (w.drewN k) ⟨h.m, h.s, h.e, h.f1, h.f2, h.own⟩
  have H2 : Hid (∀ k, Calls Tryz.prog 134 #[.pointer (some ⟨p, 2, none⟩)] ((w.drewN k).setCell ⟨p, 2, none⟩ (trV 23)) fun r w' => r = .returned (.bool true) ∧ w' = (w.drewN k).setCell ⟨p, 2, none⟩ (trV 23)) := fun k =>
    any_any ⟨p, 2, none⟩ 23 _ (World.cell?_setCell_same _ _ _ (show (w.drewN k).cell? ⟨p, 2, none⟩ = some (trV 0) from h.e))
  have hcm := h.m
  have hcs := h.s
  rw [hv] at hcs
  obtain ⟨T, hTT⟩ : ∃ T : Int, (tot ps ps.length : Int) = T := ⟨_, rfl⟩
  rw [hTT] at hT hl
  have HTT : Hid ((tot ps ps.length : Int) = T) := hTT
  obtain ⟨n, hnn⟩ : ∃ n : Nat, xs.length = n := ⟨_, rfl⟩
  rw [hnn] at hcs hl hn
  obtain ⟨m, hmm⟩ : ∃ m : Nat, ps.length = m := ⟨_, rfl⟩
  have HMM : Hid (ps.length = m) := hmm
  have HC : Hid (∀ j, j < m → w.cell? ⟨q, j, none⟩ = some (.string (ps.getD j ⟨#[]⟩))) := fun j hj => hc j (by rw [hmm]; exact hj)
  rw [hmm] at hm ⊢
  clear h hv hTT hnn hmm hc
  go_enter Tryz.func156, Tryz.ntmps156
  go_wp2_with fail
  go_loop [4, 11] (fun sz ix => ∃ (k : Nat) (Z : Int), ix = .int .i64 k ∧ sz = .int .i64 Z ∧ k ≤ m ∧ 0 ≤ Z ∧ Z ≤ 140737488355328 ∧ Hid (Z = (tot ps k : Int))) (fun _ ix => 200 - (intOf ix).toNat)
  case atStart => exact ⟨0, 0, rfl, rfl, by omega, by omega, by omega, (show (0 : Int) = (tot ps 0 : Int) from by rw [tot_zero]; rfl)⟩
  case round =>
    obtain ⟨k, Z, rfl, rfl, hk, hZ0, hZ1, HZ⟩ := hrel
    by_cases hlt : k < m
    · have hcell := HC.out k hlt
      obtain ⟨t, ht⟩ : ∃ t, ps.getD k ⟨#[]⟩ = t := ⟨_, rfl⟩
      rw [ht] at hcell
      have hsz : Z + (t.size : Int) ≤ 140737488355328 := by
        have h1 := tot_succ ps k (by rw [HMM.out]; exact hlt)
        have h2 := tot_mono ps (k + 1) (by rw [HMM.out]; omega)
        have h3 := HZ.out
        have h4 := HTT.out
        rw [ht] at h1
        omega
      have HZ2 : Hid (Z + (t.size : Int) = (tot ps (k + 1) : Int)) := by
        show Z + (t.size : Int) = (tot ps (k + 1) : Int)
        have h1 := tot_succ ps k (by rw [HMM.out]; exact hlt)
        have h3 := HZ.out
        rw [ht] at h1
        omega
      clear ht hcm hcs
      go_wp2
      go_round
      case rel => exact ⟨k + 1, Z + (t.size : Int), by go_num, rfl, by omega, by omega, hsz, HZ2.out⟩
      case measure => simp [intOf]; omega
    · obtain rfl : k = m := by omega
      obtain rfl : Z = T := by rw [HZ.out, ← HTT.out, HMM.out]
      have hw : IntKind.i64.wrap (M - (n : Int)) = M - (n : Int) := by rw [IntKind.wrap_i64]; omega
      go_wp2_with fail
      go_quiet (fail)
      go_wp2_with fail
      refine (H1.out _).mono ?_
      rintro e w2 ⟨rfl, k2, hw2⟩
      rw [World.drewN_drewN] at hw2
      subst hw2
      go_wp2_with fail
      refine (H2.out _).mono ?_
      rintro e w2 ⟨rfl, rfl⟩
      go_wp2
      first | go_end0 | refine bodyPost_ret (results_none rfl _ _ _) rfl ?_
      exact ⟨rfl, _, rfl⟩



end Go.Proofs.YtfcbjcebkahehaaGreatDoor
namespace Go.Proofs.YtfcbjcebkahehaaGreatDoor
open Go.RowKit
/-- What stays, and where the Writer's own bytes lie behind a laying. -/
structure Kept (p : Nat) (v v' : Value) (w w' : World) : Prop where
  os : w'.os = w.os
  tape : w'.tape = w.tape
  output : w'.output = w.output
  size : w.heap.size ≤ w'.heap.size
  block : ∀ b, b < w.heap.size → b ≠ p → some b ≠ v.ownBlock → w'.heap[b]? = w.heap[b]?
  row : v'.ownBlock = v.ownBlock ∨ ∃ g, w.heap.size ≤ g ∧ v'.ownBlock = some g

theorem cells_of_block {w w' : World} {b : Nat} (h : w'.heap[b]? = w.heap[b]?) (o : Nat) : w'.cell? ⟨b, o, none⟩ = w.cell? ⟨b, o, none⟩ ∧ w'.frozen? ⟨b, o, none⟩ = w.frozen? ⟨b, o, none⟩ := by
  constructor
  · unfold World.cell?; simp only [h]
  · unfold World.frozen?; simp only [h]

/-- The bytes of the first parts. -/
def cellsOf (ps : List ByteArray) (k : Nat) : List Value := (ps.take k).flatMap Lib.strCells
theorem cellsOf_succ (ps : List ByteArray) (k : Nat) (h : k < ps.length) : cellsOf ps (k + 1) = cellsOf ps k ++ Lib.strCells (ps.getD k ⟨#[]⟩) := by
  unfold cellsOf
  rw [List.take_add_one, List.flatMap_append]
  simp [List.getD, List.getElem?_eq_getElem h]
theorem cellsOf_len (ps : List ByteArray) (k : Nat) (h : k ≤ ps.length) : (cellsOf ps k).length = tot ps k := by
  induction k with
  | zero => rfl
  | succ k ih => rw [cellsOf_succ ps k (by omega), List.length_append, ih (by omega), tot_succ ps k (by omega), Lib.strCells_length]

/-- One part more. -/
theorem kept_step (p : Nat) (v v1 v2 : Value) (M : Int) (xs ys : List Value) (w w1 w2 : World) (s : ByteArray) (h : PW w1 p v1 M xs 0) (hK : Kept p v v1 w w1)
    (hown : w2.ownsRow (p + 1) 5 1 v2 (xs.length + s.size) (xs ++ Lib.strCells s)) (hg : w1.grownBy w2 v1.ownBlock) (hr : v2.ownBlock = v1.ownBlock ∨ v2.ownBlock = some w1.heap.size) (hys : ys = xs ++ Lib.strCells s) :
    PW (w2.setCell ⟨p, 1, none⟩ v2) p v2 M ys 0 ∧ Kept p v v2 w (w2.setCell ⟨p, 1, none⟩ v2) := by
  subst hys
  have hne : some p ≠ v1.ownBlock := fun e => by have := (h.own.lt p e.symm).1; omega
  have hne2 : v2.ownBlock ≠ some p := fun e => by have := (hown.lt p e).1; omega
  have hp1 : p < w1.heap.size := h.lt
  have hb : w2.heap[p]? = w1.heap[p]? := hg.block p hp1 hne
  have hlen : xs.length + s.size = (xs ++ Lib.strCells s).length := by rw [List.length_append, Lib.strCells_length]
  rw [hlen] at hown
  have hsc : ∀ (k : Nat), k ≠ p → (w2.setCell ⟨p, 1, none⟩ v2).heap[k]? = w2.heap[k]? := fun k hk => Below.heap_setCell _ _ _ k hk
  have hgs : w2.grownBy (w2.setCell ⟨p, 1, none⟩ v2) (some p) := ⟨rfl, rfl, rfl, by simp, fun k _ hk => hsc k (fun e => hk (by rw [e]))⟩
  refine ⟨⟨?_, ?_, ?_, ?_, ?_, hown.kept hgs (.inr hne2)⟩, ⟨?_, ?_, ?_, ?_, ?_, ?_⟩⟩
  · rw [World.cell?_setCell_other _ _ _ _ (by simp), (cells_of_block hb 0).1]; exact h.m
  · exact World.cell?_setCell_same _ _ _ (by rw [(cells_of_block hb 1).1]; exact h.s)
  · rw [World.cell?_setCell_other _ _ _ _ (by simp), (cells_of_block hb 2).1]; exact h.e
  · rw [World.frozen?_setCell, (cells_of_block hb 1).2]; exact h.f1
  · rw [World.frozen?_setCell, (cells_of_block hb 2).2]; exact h.f2
  · exact hg.os.trans hK.os
  · exact hg.tape.trans hK.tape
  · exact hg.output.trans hK.output
  · exact Nat.le_trans hK.size (Nat.le_trans hg.size hgs.size)
  · intro b hb1 hb2 hb3
    rw [hsc b hb2]
    have hb4 : some b ≠ v1.ownBlock := by
      rcases hK.row with e | ⟨g, hg1, e⟩
      · rw [e]; exact hb3
      · rw [e]; intro e2; cases e2; omega
    rw [hg.block b (Nat.lt_of_lt_of_le hb1 hK.size) hb4]
    exact hK.block b hb1 hb2 hb3
  · rcases hr with e | e
    · rw [e]; exact hK.row
    · exact .inr ⟨_, hK.size, e⟩

set_option maxRecDepth 4000 in
set_option maxHeartbeats 4000000 in
theorem lay_fits (p q : Nat) (v : Value) (M : Int) (xs : List Value) (ps : List ByteArray) (w : World) (h : PW w p v M xs 0) (hc : ∀ j, j < ps.length → w.cell? ⟨q, j, none⟩ = some (.string (ps.getD j ⟨#[]⟩))) (hq1 : q < w.heap.size) (hqp : q ≠ p) (hqv : some q ≠ v.ownBlock)
    (hm : ps.length ≤ 100) (hM0 : 0 ≤ M) (hM1 : M ≤ 9223372036854775807) (hT : (tot ps ps.length : Int) ≤ 140737488355328) (hb : xs.length + tot ps ps.length ≤ 140737488355328) (hn : (xs.length : Int) ≤ 140737488355328) (hl : (tot ps ps.length : Int) ≤ M - (xs.length : Int)) :
    Calls Tryz.prog 156 #[.pointer (some ⟨p, 0, none⟩), .slice (some ⟨q, 0, none⟩) ps.length ps.length] w fun e w' => e = .returned (.tuple #[]) ∧ ∃ v', PW w' p v' M (xs ++ cellsOf ps ps.length) 0 ∧ Kept p v v' w w' := by
  obtain ⟨a, cap, hv⟩ := own_form h.own
  have H2 : Hid (∀ k, Calls Tryz.prog 134 #[.pointer (some ⟨p, 2, none⟩)] (w.drewN k) fun r w' => r = .returned (.bool false) ∧ w' = w.drewN k) := fun k =>
    any_any ⟨p, 2, none⟩ 0 _ h.e
  have HPW : Hid (PW w p v M xs 0) := h
  have HQ : Hid (q < w.heap.size ∧ q ≠ p ∧ some q ≠ v.ownBlock) := ⟨hq1, hqp, hqv⟩
  have HBB : Hid (xs.length + tot ps ps.length ≤ 140737488355328) := hb
  have hcm := h.m
  have hcs := h.s
  rw [hv] at hcs
  clear hq1 hqp hqv hb
  obtain ⟨T, hTT⟩ : ∃ T : Int, (tot ps ps.length : Int) = T := ⟨_, rfl⟩
  rw [hTT] at hT hl
  have HTT : Hid ((tot ps ps.length : Int) = T) := hTT
  obtain ⟨n, hnn⟩ : ∃ n : Nat, xs.length = n := ⟨_, rfl⟩
  rw [hnn] at hcs hl hn
  obtain ⟨m, hmm⟩ : ∃ m : Nat, ps.length = m := ⟨_, rfl⟩
  have HMM : Hid (ps.length = m) := hmm
  have HC : Hid (∀ j, j < m → w.cell? ⟨q, j, none⟩ = some (.string (ps.getD j ⟨#[]⟩))) := fun j hj => hc j (by rw [hmm]; exact hj)
  rw [hmm] at hm ⊢
  clear h hv hTT hnn hmm hc
  go_enter Tryz.func156, Tryz.ntmps156
  go_wp2_with fail
  go_loop [4, 11] (fun sz ix => ∃ (k : Nat) (Z : Int), ix = .int .i64 k ∧ sz = .int .i64 Z ∧ k ≤ m ∧ 0 ≤ Z ∧ Z ≤ 140737488355328 ∧ Hid (Z = (tot ps k : Int))) (fun _ ix => 200 - (intOf ix).toNat)
  case atStart => exact ⟨0, 0, rfl, rfl, by omega, by omega, by omega, (show (0 : Int) = (tot ps 0 : Int) from by rw [tot_zero]; rfl)⟩
  case round =>
    obtain ⟨k, Z, rfl, rfl, hk, hZ0, hZ1, HZ⟩ := hrel
    by_cases hlt : k < m
    · have hcell := HC.out k hlt
      obtain ⟨t, ht⟩ : ∃ t, ps.getD k ⟨#[]⟩ = t := ⟨_, rfl⟩
      rw [ht] at hcell
      have hsz : Z + (t.size : Int) ≤ 140737488355328 := by
        have h1 := tot_succ ps k (by rw [HMM.out]; exact hlt)
        have h2 := tot_mono ps (k + 1) (by rw [HMM.out]; omega)
        have h3 := HZ.out
        have h4 := HTT.out
        rw [ht] at h1
        omega
      have HZ2 : Hid (Z + (t.size : Int) = (tot ps (k + 1) : Int)) := by
        show Z + (t.size : Int) = (tot ps (k + 1) : Int)
        have h1 := tot_succ ps k (by rw [HMM.out]; exact hlt)
        have h3 := HZ.out
        rw [ht] at h1
        omega
      clear ht hcm hcs
      go_wp2
      go_round
      case rel => exact ⟨k + 1, Z + (t.size : Int), by go_num, rfl, by omega, by omega, hsz, HZ2.out⟩
      case measure => simp [intOf]; omega
    · obtain rfl : k = m := by omega
      obtain rfl : Z = T := by rw [HZ.out, ← HTT.out, HMM.out]
      have hw : IntKind.i64.wrap (M - (n : Int)) = M - (n : Int) := by rw [IntKind.wrap_i64]; omega
      go_wp2_with fail
      go_quiet (fail)
      go_wp2_with fail
      refine (H2.out _).mono ?_
      rintro e w2 ⟨rfl, hw2⟩
      subst hw2
      clear hcm hcs hw
      go_wp2_with fail
      go_loopw [40] (fun ix wr => ∃ (j : Nat) (v' : Value), ix = .int .i64 j ∧ j ≤ k ∧ Hid (PW wr p v' M (xs ++ cellsOf ps j) 0) ∧ Hid (Kept p v v' w wr)) (fun ix _ => 200 - (intOf ix).toNat)
      case atStart =>
        have e0 : xs ++ cellsOf ps 0 = xs := by simp [cellsOf]
        refine ⟨0, v, rfl, by omega, ?_, ?_⟩
        · show PW _ p v M (xs ++ cellsOf ps 0) 0
          rw [e0]
          have h := HPW.out
          exact ⟨h.m, h.s, h.e, h.f1, h.f2, h.own⟩
        · exact (show Kept p v v w _ from ⟨rfl, rfl, rfl, Nat.le_refl _, fun _ _ _ _ => rfl, .inl rfl⟩)
      case round =>
        obtain ⟨j, v', rfl, hj, HP, HK⟩ := hrel
        by_cases hlt2 : j < k
        · obtain ⟨t, ht⟩ : ∃ t, ps.getD j ⟨#[]⟩ = t := ⟨_, rfl⟩
          have hcell : wr.cell? ⟨q, j, none⟩ = some (.string t) := by
            rw [(cells_of_block (HK.out.block q HQ.out.1 HQ.out.2.1 HQ.out.2.2) j).1, ← ht]
            exact HC.out j hlt2
          have hs1 := HP.out.s
          have hf1 := HP.out.f1
          have hp1 := HP.out.lt
          have hsum : (xs ++ cellsOf ps j).length + t.size ≤ 140737488355328 := by
            have h1 := tot_succ ps j (by rw [HMM.out]; exact hlt2)
            have h2 := tot_mono ps (j + 1) (by rw [HMM.out]; omega)
            have h3 := HBB.out
            rw [ht] at h1
            rw [List.length_append, cellsOf_len ps j (by rw [HMM.out]; exact hj)]
            omega
          have HS : Hid ((xs ++ cellsOf ps j).length + t.size ≤ 140737488355328) := hsum
          have HY : Hid (xs ++ cellsOf ps (j + 1) = (xs ++ cellsOf ps j) ++ Lib.strCells t) := by
            show xs ++ cellsOf ps (j + 1) = (xs ++ cellsOf ps j) ++ Lib.strCells t
            rw [cellsOf_succ ps j (by rw [HMM.out]; exact hlt2), ht, List.append_assoc]
          have HE : Hid (∀ w2 : World, wr.grownBy w2 v'.ownBlock → w2.cell? ⟨p, 1, none⟩ = some v' ∧ w2.frozen? ⟨p, 1, none⟩ = false) := fun w2 hg => by
            have hb : w2.heap[p]? = wr.heap[p]? := hg.block p hp1 (fun e => by have := (HP.out.own.lt p e.symm).1; omega)
            exact ⟨(cells_of_block hb 1).1.trans hs1, (cells_of_block hb 1).2.trans hf1⟩
          have HB1 : Hid (p + 1 ≤ wr.heap.size) := hp1
          clear ht hsum hp1
          go_wp2_with (at_builtin; refine Hid.out ?_)
          refine (show Hid _ from ?_)
          refine wpList_append_at rfl _ _ rfl (p + 1) v' _ _ rfl HP.out.own t rfl HS.out HB1.out ?_
          intro v2 w2 ho hg hr
          have hst := (HE.out w2 hg).1
          have hfz := (HE.out w2 hg).2
          have HO : Hid (PW (w2.setCell ⟨p, 1, none⟩ v2) p v2 M (xs ++ cellsOf ps (j + 1)) 0 ∧ Kept p v v2 w (w2.setCell ⟨p, 1, none⟩ v2)) := kept_step p v v' v2 M _ _ w wr w2 t HP.out HK.out ho hg hr HY.out
          obtain ⟨a2, cap2, hv2⟩ := own_form ho
          generalize (xs ++ cellsOf ps j).length + t.size = n2 at hv2
          clear ho hg hr
          subst hv2
          go_wp2_with fail
          go_roundw
          case rel => exact ⟨j + 1, _, by go_num, by omega, HO.out.1, HO.out.2⟩
          case measure => simp [intOf]; omega
        · obtain rfl : j = k := by omega
          go_wp2
          first | go_end0 | refine bodyPost_ret (results_none rfl _ _ _) rfl ?_
          exact ⟨rfl, _, HP.out, HK.out⟩



end Go.Proofs.YtfcbjcebkahehaaGreatDoor
namespace Go.Proofs.YtfcbjcebkahehaaGreatDoor
open Go.RowKit
theorem any_true (p : Nat) (E : Int) (w : World) (h : w.cell? ⟨p, 2, none⟩ = some (trV E)) (hE : E ≠ 0) : Calls Tryz.prog 134 #[.pointer (some ⟨p, 2, none⟩)] w fun r w' => r = .returned (.bool true) ∧ w' = w := by
  refine (any_any ⟨p, 2, none⟩ E w h).mono ?_
  rintro e w' ⟨h1, h2⟩
  exact ⟨by rw [h1]; simp [hE], h2⟩

set_option maxRecDepth 4000 in
set_option maxHeartbeats 4000000 in
theorem lay_wrong (p q : Nat) (v : Value) (M E : Int) (xs : List Value) (ps : List ByteArray) (w : World) (h : PW w p v M xs E) (hE : E ≠ 0) (hc : ∀ j, j < ps.length → w.cell? ⟨q, j, none⟩ = some (.string (ps.getD j ⟨#[]⟩)))
    (hm : ps.length ≤ 100) (hM0 : 0 ≤ M) (hM1 : M ≤ 9223372036854775807) (hT : (tot ps ps.length : Int) ≤ 140737488355328) (hn : (xs.length : Int) ≤ 140737488355328) :
    Calls Tryz.prog 156 #[.pointer (some ⟨p, 0, none⟩), .slice (some ⟨q, 0, none⟩) ps.length ps.length] w fun e w' => e = .returned (.tuple #[]) ∧ ∃ k, w' = w.drewN k := by
  obtain ⟨a, cap, hv⟩ := own_form h.own
  have H1 : Hid (∀ k, Calls Tryz.prog 115 #[.pointer (some ⟨p, 0, none⟩), .int .i64 23] (w.drewN k) fun e w' => e = .returned (.tuple #[]) ∧ ∃ k2, w' = (w.drewN k).drewN k2) := fun k =>
    pfail_later p v M E 23 xs (w.drewN k) ⟨h.m, h.s, h.e, h.f1, h.f2, h.own⟩ hE
  have H2 : Hid (∀ k, Calls Tryz.prog 134 #[.pointer (some ⟨p, 2, none⟩)] (w.drewN k) fun r w' => r = .returned (.bool true) ∧ w' = w.drewN k) := fun k =>
    any_true p E (w.drewN k) h.e hE
  have hcm := h.m
  have hcs := h.s
  rw [hv] at hcs
  obtain ⟨T, hTT⟩ : ∃ T : Int, (tot ps ps.length : Int) = T := ⟨_, rfl⟩
  rw [hTT] at hT
  have HTT : Hid ((tot ps ps.length : Int) = T) := hTT
  obtain ⟨n, hnn⟩ : ∃ n : Nat, xs.length = n := ⟨_, rfl⟩
  rw [hnn] at hcs hn
  obtain ⟨m, hmm⟩ : ∃ m : Nat, ps.length = m := ⟨_, rfl⟩
  have HMM : Hid (ps.length = m) := hmm
  have HC : Hid (∀ j, j < m → w.cell? ⟨q, j, none⟩ = some (.string (ps.getD j ⟨#[]⟩))) := fun j hj => hc j (by rw [hmm]; exact hj)
  rw [hmm] at hm ⊢
  clear h hv hTT hnn hmm hc
  go_enter Tryz.func156, Tryz.ntmps156
  go_wp2_with fail
  go_loop [4, 11] (fun sz ix => ∃ (k : Nat) (Z : Int), ix = .int .i64 k ∧ sz = .int .i64 Z ∧ k ≤ m ∧ 0 ≤ Z ∧ Z ≤ 140737488355328 ∧ Hid (Z = (tot ps k : Int))) (fun _ ix => 200 - (intOf ix).toNat)
  case atStart => exact ⟨0, 0, rfl, rfl, by omega, by omega, by omega, (show (0 : Int) = (tot ps 0 : Int) from by rw [tot_zero]; rfl)⟩
  case round =>
    obtain ⟨k, Z, rfl, rfl, hk, hZ0, hZ1, HZ⟩ := hrel
    by_cases hlt : k < m
    · have hcell := HC.out k hlt
      obtain ⟨t, ht⟩ : ∃ t, ps.getD k ⟨#[]⟩ = t := ⟨_, rfl⟩
      rw [ht] at hcell
      have hsz : Z + (t.size : Int) ≤ 140737488355328 := by
        have h1 := tot_succ ps k (by rw [HMM.out]; exact hlt)
        have h2 := tot_mono ps (k + 1) (by rw [HMM.out]; omega)
        have h3 := HZ.out
        have h4 := HTT.out
        rw [ht] at h1
        omega
      have HZ2 : Hid (Z + (t.size : Int) = (tot ps (k + 1) : Int)) := by
        show Z + (t.size : Int) = (tot ps (k + 1) : Int)
        have h1 := tot_succ ps k (by rw [HMM.out]; exact hlt)
        have h3 := HZ.out
        rw [ht] at h1
        omega
      clear ht hcm hcs
      go_wp2
      go_round
      case rel => exact ⟨k + 1, Z + (t.size : Int), by go_num, rfl, by omega, by omega, hsz, HZ2.out⟩
      case measure => simp [intOf]; omega
    · obtain rfl : k = m := by omega
      obtain rfl : Z = T := by rw [HZ.out, ← HTT.out, HMM.out]
      have hw : IntKind.i64.wrap (M - (n : Int)) = M - (n : Int) := by rw [IntKind.wrap_i64]; omega
      by_cases hl : M - (n : Int) < Z
      · go_wp2_with fail
        go_quiet (fail)
        go_wp2_with fail
        refine (H1.out _).mono ?_
        rintro e w2 ⟨rfl, k2, hw2⟩
        rw [World.drewN_drewN] at hw2
        subst hw2
        go_wp2_with fail
        refine (H2.out _).mono ?_
        rintro e w2 ⟨rfl, rfl⟩
        go_wp2
        first | go_end0 | refine bodyPost_ret (results_none rfl _ _ _) rfl ?_
        exact ⟨rfl, _, rfl⟩
      · go_wp2_with fail
        go_quiet (fail)
        go_wp2_with fail
        refine (H2.out _).mono ?_
        rintro e w2 ⟨rfl, rfl⟩
        go_wp2
        first | go_end0 | refine bodyPost_ret (results_none rfl _ _ _) rfl ?_
        exact ⟨rfl, _, rfl⟩



end Go.Proofs.YtfcbjcebkahehaaGreatDoor
namespace Go.Proofs.YtfcbjcebkahehaaGreatDoor
open Go.RowKit
/-- What a call of the program's Writer leaves. -/
def PWrote (p : Nat) (v : Value) (M : Int) (r : ByteArray × Int) (w : World) (e : Ending) (w' : World) : Prop :=
  e = .returned (.tuple #[]) ∧ ∃ v', PW w' p v' M (Lib.strCells r.1) r.2 ∧ Kept p v v' w w'

theorem Kept.refl (p : Nat) (v : Value) (w : World) : Kept p v v w w := ⟨rfl, rfl, rfl, Nat.le_refl _, fun _ _ _ _ => rfl, .inl rfl⟩
theorem Kept.drewN (p : Nat) (v : Value) (w : World) (k : Nat) : Kept p v v w (w.drewN k) := ⟨rfl, rfl, rfl, Nat.le_refl _, fun _ _ _ _ => rfl, .inl rfl⟩
theorem Kept.drewNSet (p : Nat) (v : Value) (w : World) (k o : Nat) (u : Value) : Kept p v v w ((w.drewN k).setCell ⟨p, o, none⟩ u) :=
  ⟨rfl, rfl, rfl, by simp [World.setCell], fun b _ hb _ => Below.heap_setCell _ _ _ b hb, .inl rfl⟩
theorem PW.drewN {w : World} {p : Nat} {v : Value} {M E : Int} {xs : List Value} (h : PW w p v M xs E) (k : Nat) : PW (w.drewN k) p v M xs E := ⟨h.m, h.s, h.e, h.f1, h.f2, h.own⟩
theorem PW.setE {w : World} {p : Nat} {v : Value} {M E : Int} {xs : List Value} (h : PW w p v M xs E) (F : Int) : PW (w.setCell ⟨p, 2, none⟩ (trV F)) p v M xs F := by
  have hgs : w.grownBy (w.setCell ⟨p, 2, none⟩ (trV F)) (some p) := ⟨rfl, rfl, rfl, by simp, fun k _ hk => Below.heap_setCell _ _ _ k (fun e => hk (by rw [e]))⟩
  refine ⟨?_, ?_, World.cell?_setCell_same _ _ _ h.e, ?_, ?_, h.own.kept hgs (.inr fun e => by have := (h.own.lt p e).1; omega)⟩
  · rw [World.cell?_setCell_other _ _ _ _ (by simp)]; exact h.m
  · rw [World.cell?_setCell_other _ _ _ _ (by simp)]; exact h.s
  · rw [World.frozen?_setCell]; exact h.f1
  · rw [World.frozen?_setCell]; exact h.f2

/-- Behind other steps that touch neither the Writer's block nor its bytes. -/
theorem Kept.trans {p : Nat} {v1 v2 v3 : Value} {a b c : World} (h : Kept p v1 v2 a b) (k : Kept p v2 v3 b c) : Kept p v1 v3 a c := by
  refine ⟨k.os.trans h.os, k.tape.trans h.tape, k.output.trans h.output, Nat.le_trans h.size k.size, ?_, ?_⟩
  · intro i hi hp hv
    have hv2 : some i ≠ v2.ownBlock := by
      rcases h.row with e | ⟨g, hg1, e⟩
      · rw [e]; exact hv
      · rw [e]; intro e2; cases e2; omega
    exact (k.block i (Nat.lt_of_lt_of_le hi h.size) hp hv2).trans (h.block i hi hp hv)
  · rcases k.row with e | ⟨g, hg1, e⟩
    · rw [e]; exact h.row
    · exact .inr ⟨g, Nat.le_trans h.size hg1, e⟩
theorem Kept.of_below {p : Nat} {v : Value} {a b : World} (h : Below a.heap.size a b) : Kept p v v a b := ⟨h.os, h.tape, h.output, h.size, fun i hi _ _ => h.block i hi, .inl rfl⟩
theorem PW.below {w w' : World} {p : Nat} {v : Value} {M E : Int} {xs : List Value} (h : PW w p v M xs E) (hB : Below w.heap.size w w') : PW w' p v M xs E := by
  have hb : w'.heap[p]? = w.heap[p]? := hB.block p h.lt
  have hg : w.grownBy w' none := ⟨hB.os, hB.tape, hB.output, hB.size, fun k hk _ => hB.block k hk⟩
  exact ⟨(cells_of_block hb 0).1.trans h.m, (cells_of_block hb 1).1.trans h.s, (cells_of_block hb 2).1.trans h.e, (cells_of_block hb 1).2.trans h.f1, (cells_of_block hb 2).2.trans h.f2,
    h.own.kept hg (by cases hq : v.ownBlock with | none => exact .inl rfl | some g => exact .inr (by simp))⟩

/-- One laying of the program's Writer is the document's. -/
theorem lay_any (p q m : Nat) (v : Value) (M E : Int) (S J : ByteArray) (ps : List ByteArray) (w : World) (h : PW w p v M (Lib.strCells S) E) (hc : ∀ j, j < ps.length → w.cell? ⟨q, j, none⟩ = some (.string (ps.getD j ⟨#[]⟩)))
    (hq1 : q < w.heap.size) (hqp : q ≠ p) (hqv : some q ≠ v.ownBlock) (hps : ps.length = m) (hm : m ≤ 100) (hJ : cellsOf ps ps.length = Lib.strCells J) (hM0 : 0 ≤ M) (hM1 : M ≤ 9223372036854775807) (hb : S.size + J.size ≤ 140737488355328) :
    Calls Tryz.prog 156 #[.pointer (some ⟨p, 0, none⟩), .slice (some ⟨q, 0, none⟩) m m] w (PWrote p v M (rlay M S E J) w) := by
  subst hps
  have hT : tot ps ps.length = J.size := by rw [← cellsOf_len ps _ (Nat.le_refl _), hJ, Lib.strCells_length]
  have hL : (Lib.strCells S).length = S.size := Lib.strCells_length S
  unfold rlay
  by_cases hE : E = 0
  · subst hE
    rw [if_neg (by simp)]
    by_cases hl : M < (S.size : Int) + (J.size : Int)
    · rw [if_pos hl]
      refine (lay_long p q v M (Lib.strCells S) ps w h hc hm hM0 hM1 (by omega) (by omega) (by omega)).mono ?_
      rintro e w' ⟨rfl, k, rfl⟩
      exact ⟨rfl, v, (h.drewN k).setE 23, Kept.drewNSet p v w k 2 _⟩
    · rw [if_neg hl]
      refine (lay_fits p q v M (Lib.strCells S) ps w h hc hq1 hqp hqv hm hM0 hM1 (by omega) (by omega) (by omega) (by omega)).mono ?_
      rintro e w' ⟨rfl, v', h1, h2⟩
      refine ⟨rfl, v', ?_, h2⟩
      have e1 : Lib.strCells (S ++ J) = Lib.strCells S ++ cellsOf ps ps.length := by rw [hJ]; simp [Lib.strCells]
      rw [e1]
      exact h1
  · rw [if_pos hE]
    refine (lay_wrong p q v M E (Lib.strCells S) ps w h hE hc hm hM0 hM1 (by omega) (by omega)).mono ?_
    rintro e w' ⟨rfl, k, rfl⟩
    exact ⟨rfl, v, h.drewN k, Kept.drewN p v w k⟩

theorem pfail_any (p : Nat) (v : Value) (M E F : Int) (S : ByteArray) (w : World) (h : PW w p v M (Lib.strCells S) E) :
    Calls Tryz.prog 115 #[.pointer (some ⟨p, 0, none⟩), .int .i64 F] w (PWrote p v M (S, firstE E F) w) := by
  unfold firstE
  by_cases hE : E = 0
  · subst hE
    rw [if_pos rfl]
    refine (pfail_first p v M F _ w h).mono ?_
    rintro e w' ⟨rfl, k, rfl⟩
    exact ⟨rfl, v, (h.drewN k).setE F, Kept.drewNSet p v w k 2 _⟩
  · rw [if_neg hE]
    refine (pfail_later p v M E F _ w h hE).mono ?_
    rintro e w' ⟨rfl, k, rfl⟩
    exact ⟨rfl, v, h.drewN k, Kept.drewN p v w k⟩



end Go.Proofs.YtfcbjcebkahehaaGreatDoor
