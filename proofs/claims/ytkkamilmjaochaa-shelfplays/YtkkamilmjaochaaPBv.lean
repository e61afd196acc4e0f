/- ShelfPlays: lists that are marked and grown. -/
import Derived.Test.YtkkamilmjaochaaPBt
namespace Go.Proofs.Ytkkamilmjaochaa
open Go.RowKit
def mkK (j : Nat) : KeyP := ⟨⟨#[109, 97, 114, 107]⟩, (j : Int)⟩
def mks (j n : Nat) : List KeyP := List.replicate n (mkK j)
theorem mks_len (j n : Nat) : (mks j n).length = n := by unfold mks; simp
theorem mks_succ (j n : Nat) : mks j (n + 1) = mks j n ++ [mkK j] := by unfold mks; rw [List.replicate_succ']
theorem mks_at (j n i : Nat) (h : i < n) : (mks j n)[i]? = some (mkK j) := by unfold mks; simp [h]
/-- a slice, as a list of lists has it -/
structure Sl where
  oa : Option Addr
  n : Nat
  c : Nat
abbrev slV (s : Sl) : Value := .slice s.oa s.n s.c
def slC (s : Sl) : List Value := [slV s]
theorem slL (s : Sl) : (slC s).length = 1 := rfl
theorem slO (s : Sl) : ∀ u ∈ slC s, u.oneCell' = true := by
  intro u hu
  simp only [slC, List.mem_cons, List.not_mem_nil, or_false] at hu
  subst hu; rfl
theorem info109 : ∃ i : TypeInfo, Try.prog.info? 109 = some i ∧ i.zero = some (.slice none 0 0) ∧ i.size = 1 ∧ i.bytes = 24 :=
  ⟨(Try.prog.info? 109).getD default, by kernel_rfl, by kernel_rfl, by kernel_rfl, by kernel_rfl⟩
/-- the marks of j, m of them, are read in the block g -/
def KAt (w : World) (g j m : Nat) : Prop := ∀ i, i < m → w.cell? ⟨g, i * 2, none⟩ = some (.string ⟨#[109, 97, 114, 107]⟩) ∧ w.cell? ⟨g, i * 2 + 1, none⟩ = some (.int .i64 (j : Int))
theorem KAt.block {w w' : World} {g j m : Nat} (h : KAt w g j m) (hb : w'.heap[g]? = w.heap[g]?) : KAt w' g j m := fun i hi => ⟨(World.cell?_of_block (a := ⟨g, i * 2, none⟩) hb).trans (h i hi).1, (World.cell?_of_block (a := ⟨g, i * 2 + 1, none⟩) hb).trans (h i hi).2⟩
theorem KAt.of_own {w : World} {B g n c j : Nat} (h : w.ownsRow B 32 2 (.slice (some ⟨g, 0, none⟩) n c) n (kcsK (mks j n))) {m : Nat} (hm : m ≤ n) : KAt w g j m := fun i hi => by
  have hg : ∀ k, k < 2 → (kcsK (mks j n))[i * 2 + k]? = (kcK (mkK j))[k]? := fun k hk => fm_get (cf := kcK) (sz := 2) (fun _ => rfl) (mks j n) i k (mkK j) hk (mks_at j n i (by omega))
  exact ⟨(h.cellAt (i * 2) (by omega)).trans (hg 0 (by omega)), (h.cellAt (i * 2 + 1) (by omega)).trans (hg 1 (by omega))⟩
/-- an entry that reads as marks of j -/
def ME (K : Nat → Nat) (w : World) (t : Nat) (v : Value) (j m : Nat) : Prop := ∃ oa c, v = .slice oa m c ∧ (0 < m → ∃ g, oa = some ⟨g, 0, none⟩ ∧ K g = t ∧ g < w.heap.size ∧ KAt w g j m)
theorem ME.mv {T : Nat → Prop} {K K' : Nat → Nat} {w w' : World} {t : Nat} {v : Value} {j m : Nat} (h : ME K w t v j m) (mv : Mv T w w' K K') (ht : ¬ T t) : ME K' w' t v j m := by
  obtain ⟨oa, c, h1, h2⟩ := h
  refine ⟨oa, c, h1, fun hm => ?_⟩
  obtain ⟨g, e1, e2, e3, e4⟩ := h2 hm
  exact ⟨g, e1, (mv.old g e3).trans e2, Nat.lt_of_lt_of_le e3 mv.size, e4.block (mv.kept g e3 (by rw [e2]; exact ht))⟩
def Rel (v x : Value) (m nx : Nat) : Prop := ∀ g, v.ownBlock = some g → x.ownBlock = some g → m ≤ nx
theorem RW.me {K : Nat → Nat} {w : World} {B t : Nat} {v : Value} {j m : Nat} (h : RW 32 2 kcK K w B t v (mks j m)) : ME K w t v j m := by
  obtain ⟨oa, c, e, _, hg⟩ := h.form
  rw [mks_len] at e hg
  subst e
  refine ⟨oa, c, rfl, fun hm => ?_⟩
  obtain ⟨g, rfl⟩ := hg hm
  have ho := h.own
  rw [mks_len] at ho
  exact ⟨g, rfl, h.k g rfl, (ho.lt g rfl).2, KAt.of_own ho (Nat.le_refl _)⟩
theorem append_parted {w : World} (base : Nat) (v : Value) (n : Nat) (xs : List Value) (hown : w.ownsRow base 32 2 v n xs) (b : Nat) (x : KeyP) (hb : w.heap[b]? = some (.cells #[.string x.s, .int .i64 x.n] 32 (0, 0))) (hn : n ≤ 100000000) (hbase : base ≤ w.heap.size) :
    ∃ g cap w', (∀ ty, (Builtin.append_ #[109, 109] ty #[v, .slice (some ⟨b, 0, none⟩) 1 1]).run Try.prog w = .ok (.slice (some ⟨g, 0, none⟩) (n + 1) cap) w') ∧ w'.ownsRow base 32 2 (.slice (some ⟨g, 0, none⟩) (n + 1) cap) (n + 1) (xs ++ kcK x) ∧
      ((v.ownBlock = some g ∧ w.grownBy w' (some g)) ∨ (g = w.heap.size ∧ w.grownBy w' none)) := by
  obtain ⟨i, hi, hz, hs, hby⟩ := kinfoK
  have hl1 : (kcK x).length = 1 * 2 := rfl
  have hnews : ∀ j u, (kcK x)[j]? = some u → w.cell? ((⟨b, 0, none⟩ : Addr).add j) = some u := World.news_of_block hb
  have hone : ∀ u ∈ kcK x, u.oneCell' = true := fun u hu => kcsK_one [x] u (by simpa [kcsK] using hu)
  obtain ⟨g, cap, w', hr, h2, h3, h4, h5⟩ := run_append_lies (P := Try.prog) w 109 0 base 32 i _ 2 24 Try.underlying109 hi hz hs hby rfl (by decide) v n xs hown ⟨b, 0, none⟩ 1 1 (kcK x) hl1 hnews hone (by omega) (by unfold maxLen; omega) (by omega) hbase w.heap.size rfl
  refine ⟨g, cap, w', fun ty => hr, h2, ?_⟩
  rcases hown.2 with ⟨rfl, rfl⟩ | ⟨g0, cap0, cur, rfl, hb0, hg0, hnc, hcm, hcs, htake⟩
  · rcases h4 with e | e
    · simp [Value.ownBlock] at e
    · exact .inr ⟨e, h3⟩
  · by_cases hroom : n + 1 ≤ cap0
    · have hfit : n * i.size + (kcK x).length ≤ cur.size := by rw [hl1, hs]; omega
      have hr2 := run_append_room (P := Try.prog) w 109 0 32 i Try.underlying109 hi g0 n cap0 cur hg0 ⟨b, 0, none⟩ 1 1 (kcK x) (by rw [hl1, hs]) hnews hone hroom hfit
      rw [hr2] at hr
      cases hr
      exact .inl ⟨rfl, h3⟩
    · have holds : ∀ j u, xs[j]? = some u → w.cell? ((⟨g0, 0, none⟩ : Addr).add j) = some u := hown.cells (g := g0) rfl
      have hr2 := run_append_grow (P := Try.prog) w 109 0 32 i _ Try.underlying109 hi hz ⟨g0, 0, none⟩ n cap0 xs (by rw [hs]; exact hown.1) holds ⟨b, 0, none⟩ 1 1 (kcK x) (by rw [hl1, hs]) hnews (by omega) (by omega) (by rw [hby]; exact growslice_fits (by omega) (by omega))
      rw [hr2] at hr
      cases hr
      exact .inr ⟨rfl, ⟨rfl, rfl, rfl, by simp, fun k hk _ => Below.heap_alloc w.drew _ k hk⟩⟩
/-- a list of marks grown by one, which lies in the block b -/
theorem RW.grow {K : Nat → Nat} {w : World} {B t j b : Nat} {x : Value} {nx : Nat} (h : RW 32 2 kcK K w B t x (mks j nx)) (hb : w.heap[b]? = some (.cells #[.string (mkK j).s, .int .i64 (mkK j).n] 32 (0, 0))) (hn : nx ≤ 2000000) (hB : B ≤ w.heap.size) :
    ∃ g cap w' K', (∀ ty, (Builtin.append_ #[109, 109] ty #[x, .slice (some ⟨b, 0, none⟩) 1 1]).run Try.prog w = .ok (.slice (some ⟨g, 0, none⟩) (nx + 1) cap) w') ∧ RW 32 2 kcK K' w' B t (.slice (some ⟨g, 0, none⟩) (nx + 1) cap) (mks j (nx + 1)) ∧ Mv (fun u => u = t) w w' K K' ∧
      (∀ v m, ME K w t v j m → Rel v x m nx → ME K' w' t v j m ∧ Rel v (.slice (some ⟨g, 0, none⟩) (nx + 1) cap) m (nx + 1)) := by
  have ho := h.own
  rw [mks_len] at ho
  obtain ⟨g, cap, w', hr, h2, hp⟩ := append_parted B x nx _ ho b (mkK j) hb (by omega) hB
  have e1 : kcsK (mks j nx) ++ kcK (mkK j) = kcsK (mks j (nx + 1)) := by rw [mks_succ]; simp [kcsK]
  have h2' : w'.ownsRow B 32 2 (.slice (some ⟨g, 0, none⟩) (nx + 1) cap) (nx + 1) (kcsK (mks j (nx + 1))) := by rw [← e1]; exact h2
  refine ⟨g, cap, w', ext w K (fun _ => t), hr, ?_⟩
  rcases hp with ⟨e, hg⟩ | ⟨e, hg⟩
  · have hl := (ho.lt g e).2
    have hk := h.k g e
    refine ⟨⟨by rw [mks_len]; exact h2', fun g' hg' => by cases hg'; exact (ext_old hl).trans hk⟩, ⟨hg.os, hg.tape, hg.output, hg.size, fun _ hb => ext_old hb, fun k hk2 ht => hg.block k hk2 (fun e2 => ht (by cases e2; exact hk))⟩, fun v m hv hrl => ?_⟩
    obtain ⟨oa, c, h1, h4⟩ := hv
    refine ⟨⟨oa, c, h1, fun hm => ?_⟩, fun g' e1 e2 => ?_⟩
    · obtain ⟨g1, a1, a2, a3, a4⟩ := h4 hm
      refine ⟨g1, a1, (ext_old a3).trans a2, Nat.lt_of_lt_of_le a3 hg.size, ?_⟩
      by_cases hgg : g1 = g
      · subst hgg
        have hmn : m ≤ nx := hrl g1 (by rw [h1, a1]; rfl) e
        exact KAt.of_own h2' (by omega)
      · exact a4.block (hg.block g1 a3 (by simpa using hgg))
    · cases e2
      have := hrl g e1 e
      omega
  · subst e
    refine ⟨⟨by rw [mks_len]; exact h2', fun g' hg' => by cases hg'; exact ext_new (Nat.le_refl _)⟩, ⟨hg.os, hg.tape, hg.output, hg.size, fun _ hb => ext_old hb, fun k hk2 _ => hg.block k hk2 (by simp)⟩, fun v m hv _ => ?_⟩
    obtain ⟨oa, c, h1, h4⟩ := hv
    refine ⟨⟨oa, c, h1, fun hm => ?_⟩, fun g' e1 e2 => ?_⟩
    · obtain ⟨g1, a1, a2, a3, a4⟩ := h4 hm
      exact ⟨g1, a1, (ext_old a3).trans a2, Nat.lt_of_lt_of_le a3 hg.size, a4.block (hg.block g1 a3 (by simp))⟩
    · cases e2
      rcases Nat.eq_zero_or_pos m with hm | hm
      · omega
      · obtain ⟨g1, a1, a2, a3, a4⟩ := h4 hm
        rw [h1, a1] at e1
        simp [Value.ownBlock] at e1
        omega
/-- one element marked -/
theorem RW.mark {K : Nat → Nat} {w : World} {B t j k g n cap : Nat} {x : KeyP} {l : List KeyP} (h : RW 32 2 kcK K w B t (.slice (some ⟨g, 0, none⟩) n cap) (mks j k ++ x :: l)) (hn : k + (l.length + 1) = n) :
    RW 32 2 kcK K ((w.setCell ⟨g, k * 2, none⟩ (.string ⟨#[109, 97, 114, 107]⟩)).setCell ⟨g, k * 2 + 1, none⟩ (.int .i64 (j : Int))) B t (.slice (some ⟨g, 0, none⟩) n cap) (mks j (k + 1) ++ l) ∧ Mv (fun y => y = t) w ((w.setCell ⟨g, k * 2, none⟩ (.string ⟨#[109, 97, 114, 107]⟩)).setCell ⟨g, k * 2 + 1, none⟩ (.int .i64 (j : Int))) K K := by
  have hl : (mks j k).length = k := mks_len j k
  obtain ⟨r1, m1⟩ := RW.set1 kcL h (by rw [List.length_append, hl]; exact hn) 0 (.string ⟨#[109, 97, 114, 107]⟩) (by omega) (x' := ⟨⟨#[109, 97, 114, 107]⟩, x.n⟩) rfl
  rw [hl, Nat.add_zero] at r1 m1
  obtain ⟨r2, m2⟩ := RW.set1 kcL r1 (by rw [List.length_append, hl]; exact hn) 1 (.int .i64 (j : Int)) (by omega) (x' := mkK j) rfl
  rw [hl] at r2 m2
  refine ⟨?_, m1.trans m2⟩
  rw [mks_succ, List.append_assoc]
  exact r2
theorem bldM (w : World) (n : Int) : (Instr.build 32 #[(0, .string ⟨#[109, 97, 114, 107]⟩), (1, .int .i64 n)]).run Try.prog w = .ok (.agg #[.string ⟨#[109, 97, 114, 107]⟩, .int .i64 n]) w := by kernel_rfl
theorem mark_any (w : World) (n : Int) : Calls Try.prog 49 #[.int .i64 n] w fun e w' => e = .returned (.agg #[.string ⟨#[109, 97, 114, 107]⟩, .int .i64 n]) ∧ Below w.heap.size w w' := by
  obtain ⟨A, hA⟩ : ∃ A, w.heap.size = A := ⟨_, rfl⟩
  obtain ⟨w0, hw0⟩ : ∃ w0, w.alloc (.cells #[.string ⟨#[]⟩, .int .i64 0] 32) = w0 := ⟨_, rfl⟩
  obtain ⟨w1, hw1⟩ : ∃ w1, w0.setCell ⟨A, 0, none⟩ (.string ⟨#[109, 97, 114, 107]⟩) = w1 := ⟨_, rfl⟩
  obtain ⟨w2, hw2⟩ : ∃ w2, w1.setCell ⟨A, 1, none⟩ (.int .i64 n) = w2 := ⟨_, rfl⟩
  have k0 : w0.heap[A]? = some (.cells #[.string ⟨#[]⟩, .int .i64 0] 32) := by rw [← hw0, ← hA]; exact (MapKept.heap_alloc w _).1
  have k1 : w1.heap[A]? = some (.cells #[.string ⟨#[109, 97, 114, 107]⟩, .int .i64 0] 32) := by rw [← hw1]; unfold World.setCell; simp [Array.getElem?_modify, k0]
  have k2 : w2.heap[A]? = some (.cells #[.string ⟨#[109, 97, 114, 107]⟩, .int .i64 n] 32) := by rw [← hw2]; unfold World.setCell; simp [Array.getElem?_modify, k1]
  have HB : Hid (Below A w w2) := by
    have b0 : Below A w w0 := by rw [← hw0, ← hA]; exact (Below.refl _ _).alloc (Nat.le_refl _) _
    refine ⟨?_, ?_, ?_, ?_, fun b hb => ?_⟩
    · rw [← hw2, ← hw1]; exact b0.os
    · rw [← hw2, ← hw1]; exact b0.tape
    · rw [← hw2, ← hw1]; exact b0.output
    · rw [← hw2, ← hw1]; simpa [World.setCell] using b0.size
    · rw [← hw2, Below.heap_setCell _ _ _ _ (show b ≠ A by omega), ← hw1, Below.heap_setCell _ _ _ _ (show b ≠ A by omega)]; exact b0.block b hb
  have c00 : w0.cell? ⟨A, 0, none⟩ = some (.string ⟨#[]⟩) := by unfold World.cell?; rw [k0]; rfl
  have c01 : w0.cell? ⟨A, 1, none⟩ = some (.int .i64 0) := by unfold World.cell?; rw [k0]; rfl
  have c11 : w1.cell? ⟨A, 1, none⟩ = some (.int .i64 0) := by unfold World.cell?; rw [k1]; rfl
  have c20 : w2.cell? ⟨A, 0, none⟩ = some (.string ⟨#[109, 97, 114, 107]⟩) := by unfold World.cell?; rw [k2]; rfl
  have c21 : w2.cell? ⟨A, 1, none⟩ = some (.int .i64 n) := by unfold World.cell?; rw [k2]; rfl
  have f0 : ∀ n, w0.frozen? ⟨A, n, none⟩ = false := fun n => by unfold World.frozen?; rw [k0]; rfl
  have f1 : ∀ n, w1.frozen? ⟨A, n, none⟩ = false := fun n => by unfold World.frozen?; rw [k1]; rfl
  have hb := bldM
  rw [hA]
  clear k0 k1 k2
  go_enter Try.func49, Try.ntmps49
  go_wp2
  clear c00 c01 c11 f0 f1 hw0 hw1 hw2
  refine bodyPost_ret (v := .agg #[.string ⟨#[109, 97, 114, 107]⟩, .int .i64 n]) (by simp [results, Try.results49, go_sem, c20, c21]) rfl ⟨rfl, HB.out⟩
end Go.Proofs.Ytkkamilmjaochaa
