/- A list that the call owns: one taken out, one put behind. AirCounts: what holds in each round. -/
import Derived.Test.YtlnaejhdnbmmjaaPgD
import Derived.Laws.OwnMore
namespace Go.Proofs.Ytlnaejhdnbmmjaa
open Go.RowKit
theorem slice_to (w : World) (oa : Option Addr) (n c h : Nat) (hh : h ≤ c) (hc : 0 < c) :
    (Instr.slice 43 (.slice oa n c) none (some (.int .i64 h)) none).run Try.prog w = .ok (.slice (oa.map (·.add 0)) h c) w := by
  obtain ⟨i, hi, _, hs, _⟩ := info37_ex
  have e : ¬ c = 0 := by omega
  simp [Instr.slice, Instr.sliceBounds, Instr.sliceBound, run_underlying Try.underlying43, sizeOf, typeInfo, hi, asIntOf, hh, e]
theorem slice_from (w : World) (oa : Option Addr) (n c l : Nat) (hl : l ≤ n) :
    (Instr.slice 43 (.slice oa n c) (some (.int .i64 l)) none none).run Try.prog w = .ok (.slice (if c = l then oa else oa.map (·.add (l * 3))) (n - l) (c - l)) w := by
  obtain ⟨i, hi, _, hs, _⟩ := info37_ex
  simp [Instr.slice, Instr.sliceBounds, Instr.sliceBound, run_underlying Try.underlying43, sizeOf, typeInfo, hi, hs, asIntOf, hl]

theorem own_at {w : World} {B : Nat} {v : Value} {l : List Pk} (h : w.ownsRow B 37 3 v l.length (pks l)) (hl : 0 < l.length) : ∃ q c, v = .slice (some ⟨q, 0, none⟩) l.length c ∧ B ≤ q ∧ q < w.heap.size ∧ l.length ≤ c ∧ PkAt w q 0 l := by
  obtain ⟨q, c, rfl, h1, h2⟩ := h.form hl
  exact ⟨q, c, rfl, h1, h2, own_cap h, .of_own h⟩
/-- what 'without' does by appends -/
structure Del (w : World) (B : Nat) (v : Value) (l : List Pk) (n : Nat) (s1 v1 s2 v2 : Value) (w1 w2 : World) : Prop where
  f1 : ∀ w, (Instr.slice 43 v none (some (.int .i64 n)) none).run Try.prog w = .ok s1 w
  a1 : ∀ ty, (Builtin.append_ #[43, 43] ty #[.slice none 0 0, s1]).run Try.prog w = .ok v1 w1
  f2 : ∀ w, (Instr.slice 43 v (some (.int .i64 ((n : Int) + 1))) none none).run Try.prog w = .ok s2 w
  a2 : ∀ ty, (Builtin.append_ #[43, 43] ty #[v1, s2]).run Try.prog w1 = .ok v2 w2
  own : w2.ownsRow B 37 3 v2 (without l n).length (pks (without l n))
  low : ∀ q, v2.ownBlock = some q → w.heap.size ≤ q
  below : Below w.heap.size w w2
  below1 : Below w.heap.size w w1
theorem del_run {w : World} {B : Nat} {v : Value} {l : List Pk} {n : Nat} (h : w.ownsRow B 37 3 v l.length (pks l)) (hn : n < l.length) (hm : l.length ≤ 100000000) (hB : B ≤ w.heap.size) : ∃ s1 v1 s2 v2 w1 w2, Del w B v l n s1 v1 s2 v2 w1 w2 := by
  obtain ⟨q, c, rfl, hq1, hq2, hlc, hat⟩ := own_at h (by omega)
  obtain ⟨i, hi, hz, hs, hby⟩ := info37_ex
  have e0 : (⟨q, 0, none⟩ : Addr).add 0 = ⟨q, 0, none⟩ := by rw [Addr.add_lit]
  have hs1 : ∀ w, (Instr.slice 43 (.slice (some ⟨q, 0, none⟩) l.length c) none (some (.int .i64 n)) none).run Try.prog w = .ok (.slice (some ⟨q, 0, none⟩) n c) w := fun w => by
    rw [slice_to w _ _ c n (by omega) (by omega), Option.map_some, e0]
  have hlt : (l.take n).length = n := by simp; omega
  -- the first append
  obtain ⟨v1, w1, hr1, ho1, hg1, hb1⟩ : ∃ v1 w1, (∀ ty, (Builtin.append_ #[43, 43] ty #[.slice none 0 0, .slice (some ⟨q, 0, none⟩) n c]).run Try.prog w = .ok v1 w1) ∧ w1.ownsRow w.heap.size 37 3 v1 n (pks (l.take n)) ∧ w.grownBy w1 none ∧ True := by
    rcases Nat.eq_zero_or_pos n with h0 | h0
    · subst h0
      exact ⟨_, w, fun ty => app_none w ty none _ 0 0 c (Nat.le_refl _), World.ownsRow_nil _ _ _ _, grown_refl _ _, trivial⟩
    · obtain ⟨cap, w1, hr, ho, hg, hz2⟩ := app_grow w 0 none 0 [] (l.take n) 0 q 0 c rfl (.inr ⟨rfl, rfl⟩) ⟨fun i t h => by simp at h, fun i t h => by simp at h, fun i t h => by simp at h⟩ (hat.take n) (by omega) (by omega)
      simp only [Nat.zero_add, List.nil_append, hlt] at hr ho
      exact ⟨_, w1, fun ty => hr, ho, hg, trivial⟩
  have hat1 : PkAt w1 q 0 l := hat.of_block (hg1.block q hq2 (by simp))
  have hd : (l.drop (n + 1)).length = l.length - (n + 1) := by simp
  have hat2 := hat1.drop (n + 1)
  rw [Nat.zero_add] at hat2
  have hs2 : ∀ w, (Instr.slice 43 (.slice (some ⟨q, 0, none⟩) l.length c) (some (.int .i64 ((n : Int) + 1))) none none).run Try.prog w = .ok (.slice (if c = n + 1 then some ⟨q, 0, none⟩ else some ⟨q, (n + 1) * 3, none⟩) (l.length - (n + 1)) (c - (n + 1))) w := fun w => by
    have := slice_from w (some ⟨q, 0, none⟩) l.length c (n + 1) (by omega)
    rw [Option.map_some, Addr.add_lit, Nat.zero_add] at this
    exact this
  have hwl : n + (l.length - (n + 1)) = (without l n).length := by have := without_len l n hn; omega
  have hpw : pks (l.take n) ++ pks (l.drop (n + 1)) = pks (without l n) := by rw [← pks_app]; rfl
  by_cases hm0 : l.length - (n + 1) = 0
  · have hdz : l.drop (n + 1) = [] := List.eq_nil_of_length_eq_zero (by omega)
    refine ⟨_, v1, _, v1, w1, w1, hs1, hr1, hs2, fun ty => ?_, ?_, fun q' hq' => (ho1.lt q' hq').1, below_none hg1, below_none hg1⟩
    · rw [hm0]
      obtain ⟨a1, c1, rfl, hac⟩ : ∃ a c, v1 = .slice a n c ∧ n ≤ c := by
        rcases ho1.2 with ⟨rfl, rfl⟩ | ⟨g2, c2, cur, rfl, _, _, h4, _⟩
        · exact ⟨none, 0, rfl, Nat.le_refl _⟩
        · exact ⟨_, c2, rfl, h4⟩
      exact app_none w1 ty a1 _ n c1 _ hac
    · rw [← hwl, ← hpw, hdz, hm0, Nat.add_zero]
      rw [show pks [] = [] from rfl, List.append_nil]
      have := ho1
      refine ⟨this.1, ?_⟩
      rcases this.2 with hnil | ⟨g2, c2, cur, h1, h2, h3⟩
      · exact .inl hnil
      · exact .inr ⟨g2, c2, cur, h1, Nat.le_trans hB h2, h3⟩
  · obtain ⟨v2, w2, hr2, ho2, hg2, _, hat3⟩ := run_append_own_at (P := Try.prog) w1 w.heap.size 43 0 37 i _ 3 32 Try.underlying43 hi hz hs hby rfl (by decide) v1 n (pks (l.take n)) ho1 ⟨q, (n + 1) * 3, none⟩ (l.length - (n + 1)) (c - (n + 1)) (pks (l.drop (n + 1))) (by rw [pks_len, hd]) (fun j u hu => by rw [Addr.add_lit]; exact hat2.cells j u hu) (pks_one' _) (by unfold maxLen; omega) (by omega) hg1.size
    rw [hwl, hpw] at ho2
    refine ⟨_, v1, _, v2, w1, w2, hs1, hr1, hs2, fun ty => ?_, ?_, fun q' hq' => (ho2.lt q' hq').1, ?_, below_none hg1⟩
    · rw [if_neg (by omega)]; exact hr2
    · refine ⟨ho2.1, ?_⟩
      rcases ho2.2 with hnil | ⟨g2, c2, cur, h1, h2, h3⟩
      · exact .inl hnil
      · exact .inr ⟨g2, c2, cur, h1, Nat.le_trans hB h2, h3⟩
    · exact (below_none hg1).grown hg2 hg1.size (fun k hk => (ho1.lt k hk).1)
end Go.Proofs.Ytlnaejhdnbmmjaa
namespace Go.Proofs.Ytlnaejhdnbmmjaa
open Go.RowKit
/-- the Air at p has la; the law's own list v has lf -/
structure CT (W w : World) (p : Nat) (la lf : List Pk) (v : Value) (g : Nat) : Prop where
  pa : ∃ oa c, PA w p la 0 oa c g
  own : w.ownsRow W.heap.size 37 3 v lf.length (pks lf)
  ne : ∀ q, v.ownBlock = some q → q ≠ p ∧ q ≠ g
  glt : g < w.heap.size
  below : Below W.heap.size W w
  hp : W.heap.size ≤ p
theorem own_block {w w' : World} {base : Nat} {e : TypeId} {size : Nat} {v : Value} {n : Nat} {xs : List Value} (h : w.ownsRow base e size v n xs) (hb : ∀ g, v.ownBlock = some g → w'.heap[g]? = w.heap[g]?) : w'.ownsRow base e size v n xs := by
  refine ⟨h.1, ?_⟩
  rcases h.2 with hn | ⟨g, cap, cur, rfl, h1, h2, h3⟩
  · exact .inl hn
  · exact .inr ⟨g, cap, cur, rfl, h1, (hb g rfl).trans h2, h3⟩
section
variable {W w w' : World} {p : Nat} {la lf la' : List Pk} {v : Value} {g : Nat}
theorem CT.keep (h : CT W w p la lf v g) (hB : Below w.heap.size w w') : CT W w' p la lf v g := by
  obtain ⟨oa, c, hp⟩ := h.pa
  exact ⟨⟨oa, c, hp.below hB⟩, own_block h.own (fun q hq => hB.block q (h.own.lt q hq).2), h.ne, Nat.lt_of_lt_of_le h.glt hB.size, h.below.trans (hB.mono h.below.size), h.hp⟩
theorem CT.call (h : CT W w p la lf v g) (hx : PAx w w' p la' 0 g) (hg : w.grownBy w' (some p)) : ∃ g', CT W w' p la' lf v g' ∧ w.grownBy w' (some p) := by
  obtain ⟨oa, c, g', h1, h2⟩ := hx
  refine ⟨g', ⟨⟨oa, c, h1⟩, own_block h.own (fun q hq => hg.block q (h.own.lt q hq).2 (by simpa using (h.ne q hq).1)), fun q hq => ⟨(h.ne q hq).1, ?_⟩, ?_, h.below.grown hg h.below.size (fun k e => by cases e; exact h.hp), h.hp⟩, hg⟩
  · have := (h.own.lt q hq).2
    have := (h.ne q hq).2
    omega
  · have := h.glt
    have := hg.size
    omega
/-- one put behind: x lies in the block b -/
theorem CT.app {b : Nat} {x : Pk} (h : CT W w p la lf v g) (hb : PkAt w b 0 [x]) (hm : lf.length ≤ 100000000) :
    ∃ q cap w', (∀ ty, (Builtin.append_ #[43, 43] ty #[v, .slice (some ⟨b, 0, none⟩) 1 1]).run Try.prog w = .ok (.slice (some ⟨q, 0, none⟩) (lf.length + 1) cap) w') ∧ CT W w' p la (lf ++ [x]) (.slice (some ⟨q, 0, none⟩) (lf.length + 1) cap) g := by
  obtain ⟨i, hi, hz, hs, hby⟩ := info37_ex
  obtain ⟨q, cap, w', hr, ho, hg, hat, hlt⟩ := run_append_lies (P := Try.prog) w 43 0 W.heap.size 37 i _ 3 32 Try.underlying43 hi hz hs hby rfl (by decide) v lf.length (pks lf) h.own ⟨b, 0, none⟩ 1 1 (pks [x]) rfl (fun j u hu => by rw [Addr.add_lit]; exact hb.cells j u hu) (pks_one' _) (by omega) (by unfold maxLen; omega) (by omega) h.below.size w.heap.size rfl
  obtain ⟨oa, c, hp⟩ := h.pa
  have hpl := hp.lt
  have hgl := h.glt
  refine ⟨q, cap, w', fun ty => hr, ⟨oa, c, hp.kept (hg.block p hpl (fun e => (h.ne p e.symm).1 rfl)) (fun _ => hg.block g hgl (fun e => (h.ne g e.symm).2 rfl))⟩, ?_, ?_, Nat.lt_of_lt_of_le hgl hg.size, h.below.grown hg h.below.size (fun k e => (h.own.lt k e).1), h.hp⟩
  · rw [← pks_app] at ho
    rw [show (lf ++ [x]).length = lf.length + 1 by simp]
    exact ho
  · intro q' e
    cases e
    rcases hat with e | e
    · exact h.ne q e
    · subst e; exact ⟨fun e => by rw [← e] at hpl; exact Nat.lt_irrefl _ hpl, fun e => by rw [← e] at hgl; exact Nat.lt_irrefl _ hgl⟩
theorem CT.del {n : Nat} {s1 v1 s2 v2 : Value} {w1 w2 : World} (h : CT W w p la lf v g) (hd : Del w W.heap.size v lf n s1 v1 s2 v2 w1 w2) : CT W w2 p la (without lf n) v2 g := by
  have hk := h.keep hd.below
  obtain ⟨oa, c, hp⟩ := h.pa
  have := hp.lt
  have := h.glt
  exact ⟨hk.pa, hd.own, fun q hq => by have := hd.low q hq; omega, hk.glt, hk.below, hk.hp⟩
theorem CT.dlv (h : CT W w p la lf v g) (n : Int) : Calls Try.prog 12 #[.pointer (some ⟨p, 0, none⟩), .int .i64 n] w fun e w' => e = .returned (.tuple #[pkA (dlvP la n), .int .i64 (dropE la n)]) ∧ ∃ g', CT W w' p (dropL la n) lf v g' ∧ w.grownBy w' (some p) := by
  obtain ⟨oa, c, hp⟩ := h.pa
  exact (deliver_any n hp).mono fun e w' ⟨h2, h3, h4⟩ => ⟨h2, h.call h3 h4⟩
theorem CT.drp (h : CT W w p la lf v g) (n : Int) : Calls Try.prog 13 #[.pointer (some ⟨p, 0, none⟩), .int .i64 n] w fun e w' => e = .returned (.int .i64 (dropE la n)) ∧ ∃ g', CT W w' p (dropL la n) lf v g' ∧ w.grownBy w' (some p) := by
  obtain ⟨oa, c, hp⟩ := h.pa
  exact (drop_any n hp).mono fun e w' ⟨h2, h3, h4⟩ => ⟨h2, h.call h3 h4⟩
theorem CT.dbl (h : CT W w p la lf v g) (n : Int) : Calls Try.prog 14 #[.pointer (some ⟨p, 0, none⟩), .int .i64 n] w fun e w' => e = .returned (.int .i64 (dblE la n)) ∧ ∃ g', CT W w' p (dblL la n) lf v g' ∧ w.grownBy w' (some p) := by
  obtain ⟨oa, c, hp⟩ := h.pa
  exact (double_any n hp).mono fun e w' ⟨h2, h3, h4⟩ => ⟨h2, h.call h3 h4⟩
theorem CT.snd (h : CT W w p la lf v g) (x : Pk) : Calls Try.prog 15 #[.pointer (some ⟨p, 0, none⟩), pkA x] w fun e w' => e = .returned (.int .i64 (sendE la x)) ∧ ∃ g', CT W w' p (sendL la x) lf v g' ∧ w.grownBy w' (some p) := by
  obtain ⟨oa, c, hp⟩ := h.pa
  exact (send_any x hp).mono fun e w' ⟨h2, h3, h4⟩ => ⟨h2, h.call h3 h4⟩
theorem CT.most (h : CT W w p la lf v g) : la.length ≤ 1000 := by
  obtain ⟨oa, c, hp⟩ := h.pa
  exact hp.most
theorem CT.form (h : CT W w p la lf v g) : ∃ a c, v = .slice a lf.length c := by
  rcases h.own.2 with ⟨rfl, h0⟩ | ⟨g2, c2, cur, rfl, _⟩
  · exact ⟨none, 0, by rw [h0]⟩
  · exact ⟨_, c2, rfl⟩
end
theorem OpsAt.below {w w' : World} {b off len : Nat} {O : Nat → OpR} (h : OpsAt w b off len O) (hB : Below w.heap.size w w') : OpsAt w' b off len O := by
  have key : ∀ {o : Nat} {v : Value}, w.cell? ⟨b, o, none⟩ = some v → w'.cell? ⟨b, o, none⟩ = some v := fun {o v} hc => (hB.cell (World.block_lt_of_cell? w _ hc)).trans hc
  exact ⟨fun i hi => key (h.c0 i hi), fun i hi => key (h.c1 i hi), fun i hi => key (h.c2 i hi), fun i hi => key (h.c3 i hi), fun i hi => key (h.c4 i hi), fun i hi => key (h.c5 i hi), fun i hi => key (h.c6 i hi), h.on, h.n, h.many, h.da⟩
theorem has_x {l : List Pk} {k : Nat} {x : Pk} (hh : hasP l k = true) (hx : l[k]? = some x) : dlvP l k = x ∧ dropE l k = 0 ∧ dropL l k = without l k ∧ dblE l k = putE l ∧ dblL l k = putL l x := by
  unfold dlvP dropE dropL dblE dblL
  rw [if_pos hh, if_pos hh, if_pos hh, if_pos hh, if_pos hh, Int.toNat_natCast]
  exact ⟨by simp [List.getD, hx], rfl, rfl, rfl, by simp [List.getD, hx]⟩
theorem has_no {l : List Pk} {n : Int} (hh : hasP l n = false) : dlvP l n = nulP ∧ dropE l n = 130 ∧ dropL l n = l ∧ dblE l n = 130 ∧ dblL l n = l := by
  unfold dlvP dropE dropL dblE dblL
  simp [hh]
end Go.Proofs.Ytlnaejhdnbmmjaa
