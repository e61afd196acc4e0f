/- The law's own numbers: pick, add, a script's size. The chapter's example: awake. -/
import Derived.Test.YtlnaejhdnbmmjaaPgC
import Derived.Lib.MinMax
import Derived.Deep.RegionHeld3
namespace Go.Proofs.Ytlnaejhdnbmmjaa
open Go.RowKit
def pickP (c n : Int) : Int := (if c < 0 then -(c + 1) else c) % n
theorem pick_range (c n : Int) (h : 0 < n) : 0 ≤ pickP c n ∧ pickP c n < n := ⟨Int.emod_nonneg _ (by omega), Int.emod_lt_of_pos _ h⟩
theorem pick_any (c n : Int) (w : World) (h0 : -9223372036854775808 ≤ c) (h1 : c ≤ 9223372036854775807) (hn0 : 1 ≤ n) (hn1 : n ≤ 9223372036854775807) :
    Calls Try.prog 9 #[.int .i64 c, .int .i64 n] w fun e w' => e = .returned (.int .i64 (pickP c n)) ∧ w' = w := by
  unfold pickP
  by_cases hc : c < 0
  · rw [if_pos hc]
    obtain ⟨d, hd⟩ : ∃ d, -(c + 1) = d := ⟨_, rfl⟩
    rw [hd]
    have hd0 : 0 ≤ d := by omega
    have hd1 : d ≤ 9223372036854775807 := by omega
    go_enter Try.func9, Try.ntmps9
    go_wp2
    go_ret
    exact ⟨by rw [← hd]; rfl, rfl⟩
  · rw [if_neg hc]
    go_enter Try.func9, Try.ntmps9
    go_wp2
    go_ret
    exact ⟨rfl, rfl⟩
def addP (n m : Int) : Int := if 2147483647 - n < m then 2147483648 else n + m
theorem add_any (n m : Int) (w : World) (h0 : 0 ≤ n) (h1 : n ≤ 9223372036854775807) (h2 : 0 ≤ m) (h3 : m ≤ 9000000000000000000) :
    Calls Try.prog 19 #[.int .i64 n, .int .i64 m] w fun e w' => e = .returned (.int .i64 (addP n m)) ∧ w' = w := by
  unfold addP
  by_cases hc : 2147483647 - n < m
  · rw [if_pos hc]
    go_enter Try.func19, Try.ntmps19
    go_wp2
    go_ret
    exact ⟨rfl, rfl⟩
  · rw [if_neg hc]
    go_enter Try.func19, Try.ntmps19
    go_wp2
    go_ret
    exact ⟨rfl, rfl⟩
theorem addP_range (n m : Int) (h0 : 0 ≤ n) (h2 : 0 ≤ m) : 0 ≤ addP n m ∧ addP n m ≤ 2147483648 ∧ (addP n m ≤ 2147483647 → addP n m = n + m) := by
  unfold addP
  split <;> omega

/-- a step of a script -/
structure OpR where
  kind : Int
  on : Int
  n : Int
  many : Int
  p : Pk
structure OpsAt (w : World) (b off len : Nat) (O : Nat → OpR) : Prop where
  c0 : ∀ i, i < len → w.cell? ⟨b, off + i * 7, none⟩ = some (.int .i64 (O i).kind)
  c1 : ∀ i, i < len → w.cell? ⟨b, off + i * 7 + 1, none⟩ = some (.int .i64 (O i).on)
  c2 : ∀ i, i < len → w.cell? ⟨b, off + i * 7 + 2, none⟩ = some (.int .i64 (O i).n)
  c3 : ∀ i, i < len → w.cell? ⟨b, off + i * 7 + 3, none⟩ = some (.int .i64 (O i).many)
  c4 : ∀ i, i < len → w.cell? ⟨b, off + i * 7 + 4, none⟩ = some (.int .i64 (O i).p.fr)
  c5 : ∀ i, i < len → w.cell? ⟨b, off + i * 7 + 5, none⟩ = some (.int .i64 (O i).p.to)
  c6 : ∀ i, i < len → w.cell? ⟨b, off + i * 7 + 6, none⟩ = some (.string (O i).p.da)
  on : ∀ i, i < len → -9223372036854775808 ≤ (O i).on ∧ (O i).on ≤ 9223372036854775807
  n : ∀ i, i < len → -9223372036854775808 ≤ (O i).n ∧ (O i).n ≤ 9223372036854775807
  many : ∀ i, i < len → -9223372036854775808 ≤ (O i).many ∧ (O i).many ≤ 9223372036854775807
  da : ∀ i, i < len → ((O i).p.da.size : Int) ≤ 9223372036854775807

/-- how many rounds the first k steps are -/
def rounds (O : Nat → OpR) : Nat → Int
  | 0 => 0
  | k + 1 => rounds O k + (pickP (O k).many 1101 + 1)

set_option maxHeartbeats 2000000 in
theorem size_any (oa : Option Addr) (b off len cap : Nat) (O : Nat → OpR) (w : World) (hoa : 0 < len → oa = some ⟨b, off, none⟩) (hO : OpsAt w b off len O) (hlen : (len : Int) ≤ 9223372036854775807) :
    Calls Try.prog 5 #[.slice oa len cap] w fun e w' => ∃ s : Int, e = .returned (.int .i64 s) ∧ (s ≤ 2147483647 → rounds O len ≤ s) ∧ Below w.heap.size w w' := by
  go_enter Try.func5, Try.ntmps5
  go_wp2_with fail
  go_loopw [3, 4] (fun n i wr => ∃ (k m : Nat) (N : Int), i = .int .i64 k ∧ n = .int .i64 N ∧ k ≤ len ∧ Hid (wr = w.drewN m) ∧ 0 ≤ N ∧ N ≤ 2147483648 ∧ Hid (N ≤ 2147483647 → rounds O k ≤ N)) (fun _ i _ => len - (intOf i).toNat)
  case atStart => exact ⟨0, 0, 0, rfl, rfl, by omega, rfl, by omega, by omega, fun _ => by unfold rounds; omega⟩
  case round =>
    obtain ⟨k, m, N, rfl, rfl, hk, HW, hN0, hN1, HN⟩ := hrel
    by_cases hlt : k < len
    · by_cases hNb : N ≤ 2147483647
      · have hoa' := hoa (by omega)
        subst hoa'
        have hk' : (k : Int) < (len : Int) := by omega
        have c3 : wr.cell? ⟨b, off + k * 7 + 3, none⟩ = some (.int .i64 (O k).many) := by rw [HW.out]; exact hO.c3 k hlt
        have c6 : wr.cell? ⟨b, off + k * 7 + 6, none⟩ = some (.string (O k).p.da) := by rw [HW.out]; exact hO.c6 k hlt
        have hmany := hO.many k hlt
        have hda := hO.da k hlt
        have hP := pick_range (O k).many 1101 (by omega)
        obtain ⟨P, hPP⟩ : ∃ P, pickP (O k).many 1101 = P := ⟨_, rfl⟩
        obtain ⟨A1, hA1⟩ : ∃ A, addP (O k).p.da.size 100 = A := ⟨_, rfl⟩
        have r1 := addP_range (O k).p.da.size 100 (by omega) (by omega)
        rw [hPP] at hP
        rw [hA1] at r1
        obtain ⟨M, hM⟩ : ∃ M, min A1 2147483647 = M := ⟨_, rfl⟩
        have hA1g : 100 ≤ A1 := by rw [← hA1]; unfold addP; split <;> omega
        have hMg : 100 ≤ M ∧ M ≤ 2147483647 := by omega
        have hprod : 0 ≤ (P + 1) * M ∧ (P + 1) * M ≤ 2400000000000 ∧ P + 1 ≤ (P + 1) * M := by
          have h1 : (P + 1) * M ≤ 1101 * M := Int.mul_le_mul_of_nonneg_right (by omega) (by omega)
          have h2 : (P + 1) * 1 ≤ (P + 1) * M := Int.mul_le_mul_of_nonneg_left (by omega) (by omega)
          omega
        obtain ⟨R, hR⟩ : ∃ R, (P + 1) * M = R := ⟨_, rfl⟩
        rw [hR] at hprod
        obtain ⟨A2, hA2⟩ : ∃ A, addP 100000 R = A := ⟨_, rfl⟩
        have r2 := addP_range 100000 R (by omega) (by omega)
        rw [hA2] at r2
        obtain ⟨A3, hA3⟩ : ∃ A, addP N A2 = A := ⟨_, rfl⟩
        have r3 := addP_range N A2 (by omega) (by omega)
        rw [hA3] at r3
        have H1 : Hid (∀ w, Calls Try.prog 9 #[.int .i64 (O k).many, .int .i64 1101] w fun e w' => e = .returned (.int .i64 P) ∧ w' = w) := fun w => by
          rw [← hPP]; exact pick_any _ _ w hmany.1 hmany.2 (by omega) (by omega)
        have H2 : Hid (∀ w, Calls Try.prog 19 #[.int .i64 (O k).p.da.size, .int .i64 100] w fun e w' => e = .returned (.int .i64 A1) ∧ w' = w) := fun w => by
          rw [← hA1]; exact add_any _ _ w (by omega) (by omega) (by omega) (by omega)
        have H3 : Hid (∀ w, Calls Try.prog 19 #[.int .i64 100000, .int .i64 R] w fun e w' => e = .returned (.int .i64 A2) ∧ w' = w) := fun w => by
          rw [← hA2]; exact add_any _ _ w (by omega) (by omega) (by omega) (by omega)
        have H4 : Hid (∀ w, Calls Try.prog 19 #[.int .i64 N, .int .i64 A2] w fun e w' => e = .returned (.int .i64 A3) ∧ w' = w) := fun w => by
          rw [← hA3]; exact add_any _ _ w (by omega) (by omega) (by omega) (by omega)
        have HN2 : Hid (A3 ≤ 2147483647 → rounds O (k + 1) ≤ A3) := fun h3 => by
          have e3 := r3.2.2 h3
          have e2 := r2.2.2 (by omega)
          have := HN.out (by omega)
          show rounds O k + (pickP (O k).many 1101 + 1) ≤ A3
          rw [hPP]; omega
        have hA3r : 0 ≤ A3 ∧ A3 ≤ 2147483648 := ⟨r3.1, r3.2.1⟩
        obtain ⟨d, hd⟩ : ∃ d, (O k).p.da = d := ⟨_, rfl⟩
        obtain ⟨mm, hmm⟩ : ∃ d, (O k).many = d := ⟨_, rfl⟩
        rw [hd] at c6 H2
        rw [hmm] at c3 H1
        clear hoa hA1 hPP hA2 hA3 r1 r2 r3 hO hmany hda hA1g hd hmm
        go_wp2_with fail
        go_quiet (first | (go_at_call 9; with_reducible exact Calls.quiet_of_same (H1.out _)) | (go_at_call 19; with_reducible exact Calls.quiet_of_same (H2.out _)) | (go_at_call 19; with_reducible exact Calls.quiet_of_same (H3.out _)) | (go_at_call 19; with_reducible exact Calls.quiet_of_same (H4.out _)))
        go_wp2
        go_roundw
        case rel => exact ⟨k + 1, _, A3, by go_num, rfl, by omega, (by show _ = _; rw [HW.out]; exact World.drewN_drewN _ _ _), hA3r.1, hA3r.2, HN2.out⟩
        case measure => simp [intOf]; omega
      · have hNb' : decide (N ≤ 2147483647) = false := decide_eq_false hNb
        have hk' : (k : Int) < (len : Int) := by omega
        go_wp2
        go_ret
        exact ⟨_, rfl, fun h => absurd h (by omega), (by rw [HW.out]; exact below_drew (Below.refl _ _) _)⟩
    · obtain rfl : k = len := by omega
      have HF := hid HN.out
      go_wp2
      go_ret
      exact ⟨_, rfl, HF.out, (by rw [HW.out]; exact below_drew (Below.refl _ _) _)⟩
end Go.Proofs.Ytlnaejhdnbmmjaa
namespace Go.Proofs.Ytlnaejhdnbmmjaa
open Go.RowKit
def exX : Pk := ⟨1, 2, ⟨#[120]⟩⟩
def exY : Pk := ⟨3, 4, ⟨#[121]⟩⟩
structure AW (w W : World) (p bx bY : Nat) (l : List Pk) (now : Int) : Prop where
  pa : ∃ oa c g, PA W p l now oa c g
  x : Bk W bx [.int .i64 1, .int .i64 2, .string ⟨#[120]⟩] 37
  y : Bk W bY [.int .i64 3, .int .i64 4, .string ⟨#[121]⟩] 37
  below : Below w.heap.size w W
  hp : w.heap.size ≤ p
  nx : bx ≠ p
  ny : bY ≠ p
section
variable {w W W' : World} {p bx bY : Nat} {l l' : List Pk} {now now' : Int}
theorem AW.step {g : Nat} (h : AW w W p bx bY l now) (hx : PAx W W' p l' now' g) (hg : W.grownBy W' (some p)) : AW w W' p bx bY l' now' := by
  obtain ⟨a, b, c, h1, _⟩ := hx
  exact ⟨⟨a, b, c, h1⟩, h.x.grown hg h.nx, h.y.grown hg h.ny, h.below.grown hg h.below.size (fun k e => by cases e; exact h.hp), h.hp, h.nx, h.ny⟩
theorem AW.keep (h : AW w W p bx bY l now) (hB : Below W.heap.size W W') : AW w W' p bx bY l now := by
  obtain ⟨a, b, c, h1⟩ := h.pa
  exact ⟨⟨a, b, c, h1.below hB⟩, h.x.below hB h.x.lt, h.y.below hB h.y.lt, h.below.trans (hB.mono h.below.size), h.hp, h.nx, h.ny⟩
theorem AW.send (h : AW w W p bx bY l now) (z : Pk) : Calls Try.prog 15 #[.pointer (some ⟨p, 0, none⟩), pkA z] W fun e w' => e = .returned (.int .i64 (sendE l z)) ∧ AW w w' p bx bY (sendL l z) now ∧ W.grownBy w' (some p) := by
  obtain ⟨a, b, c, h1⟩ := h.pa
  exact (send_any z h1).mono fun e w' ⟨h2, h3, h4⟩ => ⟨h2, h.step h3 h4, h4⟩
theorem AW.dbl (h : AW w W p bx bY l now) (n : Int) : Calls Try.prog 14 #[.pointer (some ⟨p, 0, none⟩), .int .i64 n] W fun e w' => e = .returned (.int .i64 (dblE l n)) ∧ AW w w' p bx bY (dblL l n) now ∧ W.grownBy w' (some p) := by
  obtain ⟨a, b, c, h1⟩ := h.pa
  exact (double_any n h1).mono fun e w' ⟨h2, h3, h4⟩ => ⟨h2, h.step h3 h4, h4⟩
theorem AW.drp (h : AW w W p bx bY l now) (n : Int) : Calls Try.prog 13 #[.pointer (some ⟨p, 0, none⟩), .int .i64 n] W fun e w' => e = .returned (.int .i64 (dropE l n)) ∧ AW w w' p bx bY (dropL l n) now ∧ W.grownBy w' (some p) := by
  obtain ⟨a, b, c, h1⟩ := h.pa
  exact (drop_any n h1).mono fun e w' ⟨h2, h3, h4⟩ => ⟨h2, h.step h3 h4, h4⟩
theorem AW.dlv (h : AW w W p bx bY l now) (n : Int) : Calls Try.prog 12 #[.pointer (some ⟨p, 0, none⟩), .int .i64 n] W fun e w' => e = .returned (.tuple #[pkA (dlvP l n), .int .i64 (dropE l n)]) ∧ AW w w' p bx bY (dropL l n) now ∧ W.grownBy w' (some p) := by
  obtain ⟨a, b, c, h1⟩ := h.pa
  exact (deliver_any n h1).mono fun e w' ⟨h2, h3, h4⟩ => ⟨h2, h.step h3 h4, h4⟩
theorem AW.tick (h : AW w W p bx bY l now) (hn : -1000000000000 ≤ now ∧ now ≤ 1000000000000) : Calls Try.prog 20 #[.pointer (some ⟨p, 0, none⟩)] W fun e w' => e = .returned (.int .i64 (now + 1)) ∧ AW w w' p bx bY l (now + 1) ∧ W.grownBy w' (some p) := by
  obtain ⟨a, b, c, h1⟩ := h.pa
  exact (tick_any h1 hn).mono fun e w' ⟨h2, h3, h4⟩ => ⟨h2, h.step (h3.x W) h4, h4⟩
theorem AW.now_ (h : AW w W p bx bY l now) : Calls Try.prog 18 #[.pointer (some ⟨p, 0, none⟩)] W fun e w' => e = .returned (.int .i64 now) ∧ w' = W := by
  obtain ⟨a, b, c, h1⟩ := h.pa
  exact now_any h1
theorem AW.fly (h : AW w W p bx bY l now) : Calls Try.prog 17 #[.pointer (some ⟨p, 0, none⟩)] W fun e w' => ∃ ob cap, e = .returned (.slice ob l.length cap) ∧ FlyP W w' l ob cap ∧ AW w w' p bx bY l now ∧ Below W.heap.size W w' := by
  obtain ⟨a, b, c, h1⟩ := h.pa
  exact (flying_any h1).mono fun e w' ⟨ob, cap, h2, h3, h4⟩ => ⟨ob, cap, h2, h3, h.keep h4, h4⟩
end
theorem PkRow.fly {w w' : World} {l : List Pk} {oa : Option Addr} {cap : Nat} (h : FlyP w w' l oa cap) : PkRow w' (.slice oa l.length cap) l := by
  rcases h with ⟨rfl, rfl⟩ | ⟨rfl, h⟩
  · exact ⟨oa, 0, 0, 0, rfl, fun h => by simp at h, ⟨fun i t h => by simp at h, fun i t h => by simp at h, fun i t h => by simp at h⟩⟩
  · exact ⟨_, cap, w.heap.size, 0, rfl, fun _ => rfl, .of_own h⟩
theorem PkRow.below {w w' : World} {v : Value} {l : List Pk} (h : PkRow w v l) (hB : Below w.heap.size w w') : PkRow w' v l := by
  obtain ⟨oa, cap, g, off, e, h1, h2⟩ := h
  rcases Nat.eq_zero_or_pos l.length with h0 | h0
  · obtain rfl := List.eq_nil_of_length_eq_zero h0
    exact ⟨oa, cap, g, off, e, h1, ⟨fun i t h => by simp at h, fun i t h => by simp at h, fun i t h => by simp at h⟩⟩
  · exact ⟨oa, cap, g, off, e, h1, h2.of_block (hB.block g (h2.lt h0))⟩
theorem PkRow.block {w : World} {q : Nat} {cs : Array Value} {t : TypeId} {fr : Nat × Nat} {l : List Pk} (h : w.heap[q]? = some (.cells cs t fr)) (hc : cs.toList = pks l) (n : Nat) (hn : l.length = n) (c : Nat) : PkRow w (.slice (some ⟨q, 0, none⟩) n c) l := by
  subst hn
  refine ⟨_, c, q, 0, rfl, fun _ => rfl, .of_cells fun j u hu => ?_⟩
  rw [← hc] at hu
  have := World.news_of_block h j u hu
  rwa [Addr.add_lit] at this

theorem lt_alloc (w : World) (o : Obj) : w.heap.size < (w.alloc o).drew.heap.size := by show _ < (w.heap.push o).size; simp
theorem size_alloc (w : World) (o : Obj) : (w.alloc o).drew.heap.size = w.heap.size + 1 := by show (w.heap.push o).size = _; simp
theorem ev1 : sendE [] exX = 0 ∧ sendL [] exX = [exX] := ⟨by decide +kernel, by decide +kernel⟩
theorem ev2 : sendE [exX] exY = 0 ∧ sendL [exX] exY = [exX, exY] := ⟨by decide +kernel, by decide +kernel⟩
theorem ev3 : dblE [exX, exY] 0 = 0 ∧ dblL [exX, exY] 0 = [exX, exY, exX] := ⟨by decide +kernel, by decide +kernel⟩
theorem ev4 : dropE [exX, exY, exX] 1 = 0 ∧ dropL [exX, exY, exX] 1 = [exX, exX] ∧ dlvP [exX, exY, exX] 1 = exY := ⟨by decide +kernel, by decide +kernel, by decide +kernel⟩
theorem ev5 : dropE [exX, exX] 2 = 130 ∧ dropL [exX, exX] 2 = [exX, exX] ∧ dlvP [exX, exX] 2 = nulP := ⟨by decide +kernel, by decide +kernel, by decide +kernel⟩
theorem ev6 : dropE [exX, exX] 0 = 0 := by decide +kernel

set_option maxRecDepth 4000 in
set_option maxHeartbeats 4000000 in
theorem awake_any (w : World) : Calls Try.prog 6 #[] w fun e w' => e = .returned (.bool true) ∧ Below w.heap.size w w' := by
  have H0 := hid (new_any w)
  have hq := fun w => eql37 w exY exY
  rw [decide_eq_true rfl] at hq
  have hgu := fun w op x y xs ys => guard37n w op x y xs ys
  go_enter Try.func6, Try.ntmps6
  go_wp2_with fail
  refine H0.out.mono ?_
  rintro e w1 ⟨rfl, hP1, hB1⟩
  obtain ⟨p, hp⟩ : ∃ p, w.heap.size = p := ⟨_, rfl⟩
  have HPP : Hid (w.heap.size = p) := hp
  rw [hp]
  obtain ⟨w2, hw2⟩ : ∃ x, w1.alloc (.cells #[.int .i64 1, .int .i64 2, .string ⟨#[120]⟩] 37) = x := ⟨_, rfl⟩
  obtain ⟨w3, hw3⟩ : ∃ x, w2.alloc (.cells #[.int .i64 3, .int .i64 4, .string ⟨#[121]⟩] 37) = x := ⟨_, rfl⟩
  have hk2 : Bk w2 w1.heap.size [.int .i64 1, .int .i64 2, .string ⟨#[120]⟩] 37 := by rw [← hw2]; exact Bk.new w1 [.int .i64 1, .int .i64 2, .string ⟨#[120]⟩] 37
  have hk3 : Bk w3 w2.heap.size [.int .i64 3, .int .i64 4, .string ⟨#[121]⟩] 37 := by rw [← hw3]; exact Bk.new w2 [.int .i64 3, .int .i64 4, .string ⟨#[121]⟩] 37
  have hB2 : Below w1.heap.size w1 w2 := by rw [← hw2]; exact below_new _ _
  have hB3 : Below w2.heap.size w2 w3 := by rw [← hw3]; exact below_new _ _
  obtain ⟨bx, hbx⟩ : ∃ b, w1.heap.size = b := ⟨_, rfl⟩
  obtain ⟨bY, hbY⟩ : ∃ b, w2.heap.size = b := ⟨_, rfl⟩
  have hA : AW w w3 p bx bY [] 0 := by
    have hlt := hP1.lt
    have := hB2.size
    rw [hp] at hP1
    rw [hbx] at hk2
    rw [hbY] at hk3
    exact ⟨⟨_, _, _, (hP1.below hB2).below hB3⟩, hk2.below hB3 hk2.lt, hk3, hB1.trans ((hB2.mono hB1.size).trans (hB3.mono (by have := hB1.size; omega))), by omega, by omega, by omega⟩
  have x0 := hA.x.cell 0 rfl
  have x1 := hA.x.cell 1 rfl
  have x2 := hA.x.cell 2 rfl
  have HS := hid (hA.send exX)
  rw [ev1.1, ev1.2] at HS
  rw [show pkA exX = .agg #[.int .i64 1, .int .i64 2, .string ⟨#[120]⟩] from rfl] at HS
  clear hp hP1 hB1 hk2 hk3 hB2 hB3 hA
  go_wp2_with fail
  clear hw2 hw3
  refine HS.out.mono ?_
  rintro e w4 ⟨rfl, hA, -⟩
  have y0 := hA.y.cell 0 rfl
  have y1 := hA.y.cell 1 rfl
  have y2 := hA.y.cell 2 rfl
  have HS := hid (hA.send exY)
  rw [ev2.1, ev2.2] at HS
  rw [show pkA exY = .agg #[.int .i64 3, .int .i64 4, .string ⟨#[121]⟩] from rfl] at HS
  clear hA x0 x1 x2
  go_wp2_with fail
  refine HS.out.mono ?_
  rintro e w5 ⟨rfl, hA, -⟩
  have HS := hid (hA.dbl 0)
  rw [ev3.1, ev3.2] at HS
  clear hA y0 y1 y2
  go_wp2_with fail
  refine HS.out.mono ?_
  rintro e w6 ⟨rfl, hA, -⟩
  have HS := hid (hA.dlv 1)
  rw [ev4.1, ev4.2.1, ev4.2.2] at HS
  rw [show pkA exY = .agg #[.int .i64 3, .int .i64 4, .string ⟨#[121]⟩] from rfl] at HS
  clear hA
  go_wp2_with fail
  refine HS.out.mono ?_
  rintro e w7 ⟨rfl, hA, -⟩
  obtain ⟨w8, hw8⟩ : ∃ x, w7.alloc (.cells #[.int .i64 3, .int .i64 4, .string ⟨#[121]⟩] 37) = x := ⟨_, rfl⟩
  have hB8 : Below w7.heap.size w7 w8 := by rw [← hw8]; exact below_new _ _
  have hk8 : Bk w8 w7.heap.size [.int .i64 3, .int .i64 4, .string ⟨#[121]⟩] 37 := by rw [← hw8]; exact Bk.new w7 [.int .i64 3, .int .i64 4, .string ⟨#[121]⟩] 37
  obtain ⟨bp, hbp⟩ : ∃ b, w7.heap.size = b := ⟨_, rfl⟩
  rw [hbp] at hk8
  have hA8 := hA.keep hB8
  have hnp : bp ≠ p := by
    obtain ⟨a, b, c, h1⟩ := hA.pa
    have := h1.lt
    omega
  have HNP := hid hnp
  have HK8 := hid hk8
  have HS := hid (hA8.dlv 2)
  rw [ev5.1, ev5.2.1, ev5.2.2] at HS
  rw [show pkA nulP = .agg #[.int .i64 0, .int .i64 0, .string ⟨#[]⟩] from rfl] at HS
  clear hA hB8 hk8 hA8 hnp
  go_wp2_with fail
  clear hw8
  refine HS.out.mono ?_
  rintro e w9 ⟨rfl, hA, hG⟩
  have hk9 := HK8.out.grown hG HNP.out
  obtain ⟨w10, hw10⟩ : ∃ x, w9.alloc (.cells #[.int .i64 0, .int .i64 0, .string ⟨#[]⟩] 37) = x := ⟨_, rfl⟩
  have hB10 : Below w9.heap.size w9 w10 := by rw [← hw10]; exact below_new _ _
  have hk10 : Bk w10 w9.heap.size [.int .i64 0, .int .i64 0, .string ⟨#[]⟩] 37 := by rw [← hw10]; exact Bk.new w9 [.int .i64 0, .int .i64 0, .string ⟨#[]⟩] 37
  have q0 := hk10.cell 0 rfl
  have q1 := hk10.cell 1 rfl
  have q2 := hk10.cell 2 rfl
  have f0 := hk10.frozen 0
  have f1 := hk10.frozen 1
  have f2 := hk10.frozen 2
  obtain ⟨w11, hw11⟩ : ∃ x, ((w10.setCell ⟨w9.heap.size, 0, none⟩ (.int .i64 0)).setCell ⟨w9.heap.size, 1, none⟩ (.int .i64 0)).setCell ⟨w9.heap.size, 2, none⟩ (.string ⟨#[]⟩) = x := ⟨_, rfl⟩
  have hB11 : Below w9.heap.size w9 w11 := by rw [← hw11]; exact ((hB10.setCell (Nat.le_refl _) _).setCell (Nat.le_refl _) _).setCell (Nat.le_refl _) _
  have HS := hid ((hA.keep hB11).tick (by omega))
  have HK11 := hid (hk9.below hB11 hk9.lt)
  clear hA hG hk9 hB10 hk10 hB11
  go_wp2_with fail
  clear hw10 hw11 q0 q1 q2 f0 f1 f2
  refine HS.out.mono ?_
  rintro e w12 ⟨rfl, hA, hG⟩
  have HK12 := hid (HK11.out.grown hG HNP.out)
  have HA := hid hA
  have HF : Hid (∀ W, Below w12.heap.size w12 W → Calls Try.prog 17 #[.pointer (some ⟨p, 0, none⟩)] W fun e w' => ∃ cap, e = .returned (.slice (some ⟨W.heap.size, 0, none⟩) 2 cap) ∧ PkRow w' (.slice (some ⟨W.heap.size, 0, none⟩) 2 cap) [exX, exX] ∧ Below W.heap.size W w') := fun W hW => by
    refine (HA.out.keep hW).fly.mono ?_
    rintro e w' ⟨ob, cap, h1, h2, h3, h4⟩
    rcases h2 with ⟨h2, _⟩ | ⟨h2, h5⟩
    · cases h2
    · subst h2
      exact ⟨cap, h1, .fly (.inr ⟨rfl, h5⟩), h4⟩
  have x0 := hA.x.cell 0 rfl
  have x1 := hA.x.cell 1 rfl
  have x2 := hA.x.cell 2 rfl
  have hblt := hA.x.lt
  have HX : Hid (∀ W, Below w12.heap.size w12 W → W.cell? ⟨bx, 0, none⟩ = some (.int .i64 1) ∧ W.cell? ⟨bx, 1, none⟩ = some (.int .i64 2) ∧ W.cell? ⟨bx, 2, none⟩ = some (.string ⟨#[120]⟩)) := fun W hW => by
    have := hA.x.below hW hblt
    exact ⟨this.cell 0 rfl, this.cell 1 rfl, this.cell 2 rfl⟩
  have s1 : w12.drew.cell? ⟨bx, 0, none⟩ = some (.int .i64 1) ∧ w12.drew.cell? ⟨bx, 1, none⟩ = some (.int .i64 2) ∧ w12.drew.cell? ⟨bx, 2, none⟩ = some (.string ⟨#[120]⟩) := HX.out _ (Below.refl _ _).drew
  have HSm : Hid (∀ W v, PkRow W v [exX, exX] → ∀ q, W.heap[q]? = some (.cells #[.int .i64 1, .int .i64 2, .string ⟨#[120]⟩, .int .i64 1, .int .i64 2, .string ⟨#[120]⟩] 37 (0, 0)) → Calls Try.prog 16 #[v, .slice (some ⟨q, 0, none⟩) 2 2] W fun e w' => e = .returned (.bool true) ∧ Below W.heap.size W w') := fun W v hv q hq => by
    have := same_any [exX, exX] [exX, exX] v (.slice (some ⟨q, 0, none⟩) 2 2) W hv (.block hq rfl 2 rfl 2) (by decide)
    rw [decide_eq_true rfl] at this
    exact this.mono fun e w' ⟨h1, n, h2⟩ => ⟨h1, by rw [h2]; exact below_drew (Below.refl _ _) _⟩
  clear hA hG hblt
  go_wp2_with fail
  clear hq hgu x0 x1 x2
  go_region_held3 (fun w' => w'.cell? ⟨bx, 0, none⟩ = some (.int .i64 1) ∧ w'.cell? ⟨bx, 1, none⟩ = some (.int .i64 2) ∧ w'.cell? ⟨bx, 2, none⟩ = some (.string ⟨#[120]⟩)) (first | with_reducible exact s1 | with_reducible exact s2 | with_reducible exact s3 | with_reducible exact HX.out _ ((Below.refl _ _).drew.alloc (Nat.le_refl _) _) | with_reducible exact HX.out _ ((Below.refl _ _).alloc (Nat.le_refl _) _).drew | with_reducible exact HX.out _ (HB13.out.alloc HB13.out.size _)) (first
    | (go_at_call 17
       with_reducible refine (HF.out _ (Below.refl _ _).drew).mono ?_
       rintro e w13 ⟨cap, rfl, hR, hB13⟩
       have HB13 : Hid (Below w12.heap.size w12 w13) := ((Below.refl _ _).drew).trans hB13
       have s2 := HX.out _ HB13.out
       have HR : Hid (PkRow w13 (.slice (some ⟨w12.heap.size, 0, none⟩) 2 cap) [exX, exX]) := hR
       clear hR hB13)
    | (go_at_call 17
       with_reducible refine (HF.out _ ((Below.refl _ _).alloc (Nat.le_refl _) _).drew).mono ?_
       rintro e w13 ⟨cap, rfl, hR, hB13⟩
       have HQ := hid ((hB13.block w12.heap.size (lt_alloc _ _)).trans (heap_alloc_new w12 _))
       have HB13 : Hid (Below w12.heap.size w12 w13) := (((Below.refl _ _).alloc (Nat.le_refl _) _).drew).trans (hB13.mono (Nat.le_of_lt (lt_alloc _ _)))
       have s2 := HX.out _ HB13.out
       have HR : Hid (PkRow w13 (.slice (some ⟨w12.heap.size + 1, 0, none⟩) 2 cap) [exX, exX]) := (size_alloc w12 _) ▸ hR
       clear hR hB13)
    | (go_at_call 16
       with_reducible refine (HSm.out _ _ (HR.out.below (below_new _ _)) _ (heap_alloc_new _ _)).mono ?_
       rintro e w14 ⟨rfl, hB14⟩
       have HB14 : Hid (Below w12.heap.size w12 w14) := (HB13.out.alloc HB13.out.size _).trans (hB14.mono (Nat.le_trans HB13.out.size (below_new _ _).size))
       have s3 := HX.out _ HB14.out
       clear hB14)
    | (go_at_call 16
       with_reducible refine (HSm.out _ _ HR.out _ HQ.out).mono ?_
       rintro e w14 ⟨rfl, hB14⟩
       have HB14 : Hid (Below w12.heap.size w12 w14) := HB13.out.trans (hB14.mono HB13.out.size)
       have s3 := HX.out _ HB14.out
       clear hB14)
    | fail)
  all_goals (
    have hA := HA.out.keep HB14.out
    have hk14 := HK12.out.below HB14.out HK12.out.lt
    have hq := fun w => eql37 w exY exY
    rw [decide_eq_true rfl] at hq
    rw [show pkA exY = .agg #[.int .i64 3, .int .i64 4, .string ⟨#[121]⟩] from rfl] at hq
    have hgu := fun w op x y xs ys => guard37n w op x y xs ys
    have y0 := hA.y.cell 0 rfl
    have y1 := hA.y.cell 1 rfl
    have y2 := hA.y.cell 2 rfl
    have p0 := hk14.cell 0 rfl
    have p1 := hk14.cell 1 rfl
    have p2 := hk14.cell 2 rfl
    have HN := hid hA.now_
    have HD := hid (hA.drp 0)
    rw [ev6] at HD
    have HBW := hid HPP.out
    clear hA hk14 s1 s2 s3
    go_wp2_with (first | (go_at_call 18; refine HN.out.mono ?_; rintro e w' ⟨rfl, rfl⟩) | (go_at_call 13; refine HD.out.mono ?_; rintro e w' ⟨rfl, hA, -⟩; have HE := hid hA.below; clear hA))
    go_ret
    exact ⟨rfl, HE.out⟩)
end Go.Proofs.Ytlnaejhdnbmmjaa
