/- ClientOnce, plainly: the book of what was issued, and the calls that wait. ClientOnce, plainly: what each step does to the book. ClientOnce: the book in memory; of. ClientOnce: ends. ClientOnce: stands. -/
import Derived.Test.YtfcbjcebkahehaaGreatDoorZbu
namespace Go.Proofs.YtfcbjcebkahehaaGreatDoor.Cl
open Go.RowKit
/-- a config of the law -/
structure OnC (c : Cf) : Prop where
  ad : c.ad = 65537
  inst : c.inst = 5
  first : c.first = 9
  w1 : 1 ≤ c.win
  w2 : c.win ≤ 6
  b1 : 1 ≤ c.pb
  b2 : c.pb ≤ 5
  c1 : c.pb ≤ c.pc
  c2 : c.pc ≤ 24
  t1 : 1 ≤ c.pt
  t2 : c.pt ≤ 5
  sys : c.sys = ⟨0, [], 0, 0, []⟩
theorem sys0_may : SysP.may ⟨0, [], 0, 0, []⟩ := by
  unfold SysP.may
  refine ⟨by decide, by decide, by decide, by decide, by decide, fun g hg => by cases hg⟩
theorem OnC.right {c : Cf} (h : OnC c) : Pc.rightP c.pb c.pc c.pt = true := by
  obtain ⟨_, _, _, _, _, h1, h2, h3, h4, h5, h6, _⟩ := h
  unfold Pc.rightP Pc.inB
  simp only [Bool.and_eq_true, decide_eq_true_eq]
  omega
theorem OnC.ok {c : Cf} (h : OnC c) : okC c = true := by
  have hr := h.right
  have hs := h.sys
  obtain ⟨h1, h2, h3, h4, h5, _⟩ := h
  unfold okC inB
  rw [hr, hs]
  simp only [Bool.and_eq_true, decide_eq_true_eq]
  exact ⟨sys0_may, by omega, by omega, by omega, by omega, trivial⟩
theorem dbl_pos {c : Int} : ∀ k (v : Int), 0 ≤ v → 0 ≤ Pc.dbl c k v
  | 0, v, h => h
  | k + 1, v, h => by
    unfold Pc.dbl
    split
    · exact dbl_pos k _ (by omega)
    · exact h
theorem OnC.wait {c : Cf} (h : OnC c) (n : Int) : 0 ≤ Pc.waitP c.pb c.pc c.pt n ∧ Pc.waitP c.pb c.pc c.pt n ≤ 24 := by
  unfold Pc.waitP
  rw [if_pos h.right]
  have := dbl_pos (c := c.pc) n.toNat c.pb (by have := h.b1; omega)
  have := h.c2
  have := h.c1
  have := h.b1
  omega
theorem totP_le {c : Cf} (h : OnC c) : ∀ k : Nat, 0 ≤ Pc.totP c.pb c.pc c.pt k ∧ Pc.totP c.pb c.pc c.pt k ≤ k * 24
  | 0 => by simp [Pc.totP]
  | k + 1 => by
    have h1 := totP_le h k
    have h2 := h.wait k
    unfold Pc.totP
    omega
theorem OnC.total {c : Cf} (h : OnC c) : 0 ≤ Pc.totalP c.pb c.pc c.pt ∧ Pc.totalP c.pb c.pc c.pt ≤ 120 := by
  unfold Pc.totalP
  rw [if_pos h.right]
  have h1 := totP_le h c.pt.toNat
  have := h.t1
  have := h.t2
  omega
theorem wait0 {c : Cf} (h : OnC c) : 1 ≤ Pc.waitP c.pb c.pc c.pt 0 := by
  unfold Pc.waitP
  rw [if_pos h.right]
  show 1 ≤ min (Pc.dbl c.pc 0 c.pb) c.pc
  have : Pc.dbl c.pc 0 c.pb = c.pb := rfl
  rw [this]
  have := h.b1
  have := h.c1
  omega
theorem totP_pos {c : Cf} (h : OnC c) : ∀ k : Nat, 1 ≤ Pc.totP c.pb c.pc c.pt (k + 1)
  | 0 => by
    have := wait0 h
    show 1 ≤ Pc.totP c.pb c.pc c.pt 0 + Pc.waitP c.pb c.pc c.pt ((0 : Nat) : Int)
    have e : Pc.totP c.pb c.pc c.pt 0 = 0 := rfl
    rw [e]
    exact (by omega : 1 ≤ 0 + Pc.waitP c.pb c.pc c.pt 0)
  | k + 1 => by
    have h1 := totP_pos h k
    have h2 := h.wait ((k + 1 : Nat) : Int)
    show 1 ≤ Pc.totP c.pb c.pc c.pt (k + 1) + Pc.waitP c.pb c.pc c.pt ((k + 1 : Nat) : Int)
    omega
theorem OnC.tpos {c : Cf} (h : OnC c) : 1 ≤ Pc.totalP c.pb c.pc c.pt := by
  unfold Pc.totalP
  rw [if_pos h.right]
  obtain ⟨k, hk⟩ : ∃ k, c.pt.toNat = k + 1 := ⟨c.pt.toNat - 1, by have := h.t1; omega⟩
  rw [hk]
  exact totP_pos h k
theorem runG_in {c : Cf} (h : OnC c) (now : Int) : ∀ k (s : Int × Int), s.1 ≤ c.pt → s.1 ≤ (runG c.pb c.pc c.pt now k s).1 ∧ (runG c.pb c.pc c.pt now k s).1 ≤ c.pt ∧ s.2 ≤ (runG c.pb c.pc c.pt now k s).2 ∧ (runG c.pb c.pc c.pt now k s).2 ≤ s.2 + ((runG c.pb c.pc c.pt now k s).1 - s.1) * 24
  | 0, s, hs => by simp only [runG]; omega
  | k + 1, s, hs => by
    cases hd : dueB c.pt now s.1 s.2
    · rw [runG_stop hd]; omega
    · rw [runG_go hd]
      have hd' : s.1 < c.pt := by
        unfold dueB at hd
        simp only [Bool.and_eq_true, decide_eq_true_eq] at hd
        exact hd.1
      have := runG_in h now k (s.1 + 1, s.2 + Pc.waitP c.pb c.pc c.pt s.1) (by show s.1 + 1 ≤ _; omega)
      have hw := h.wait s.1
      dsimp only at this
      omega
theorem runG_end {c : Cf} (now : Int) : ∀ (k : Nat) (s : Int × Int), c.pt - s.1 ≤ (k : Int) → dueB c.pt now (runG c.pb c.pc c.pt now k s).1 (runG c.pb c.pc c.pt now k s).2 = false
  | 0, s, hs => by
    simp only [runG]
    unfold dueB
    rw [decide_eq_false (by omega)]
    rfl
  | k + 1, s, hs => by
    cases hd : dueB c.pt now s.1 s.2
    · rw [runG_stop hd]; exact hd
    · rw [runG_go hd]
      exact runG_end now k _ (by show c.pt - (s.1 + 1) ≤ _; omega)
/-- what was issued -/
structure Is where
  seq : Int
  at_ : Int
  sent : Int
  over : Bool
/-- a call that waits, and what the book says of it -/
structure RI (c : Cf) (now : Int) (i : Is) (x : Wt) : Prop where
  seq : x.seq = i.seq
  dst : x.dst = 65636
  prog : x.prog = 7
  vers : x.vers = 1
  proc : x.proc = 2
  args : x.args = [97, 98, 99, 100]
  fin : x.fin = i.at_ + Pc.totalP c.pb c.pc c.pt
  tms : x.tms = i.sent
  s0 : 0 ≤ i.sent
  s1 : i.sent ≤ x.snd
  s2 : x.snd ≤ c.pt
  a0 : 0 ≤ i.at_
  a1 : i.at_ ≤ now
  d0 : 0 ≤ x.due
  d1 : x.due ≤ now + x.snd * 24
  l0 : 0 ≤ x.last
  l1 : x.last ≤ now
theorem RI.later {c : Cf} {now : Int} {i : Is} {x : Wt} (h : RI c now i x) : RI c (now + 1) i x :=
  ⟨h.seq, h.dst, h.prog, h.vers, h.proc, h.args, h.fin, h.tms, h.s0, h.s1, h.s2, h.a0, by have := h.a1; omega, h.d0, by have := h.d1; omega, h.l0, by have := h.l1; omega⟩
theorem RI.fine {c : Cf} (hc : OnC c) {now : Int} {i : Is} {x : Wt} (h : RI c now i x) (hn : now ≤ 1000000000) : x.fine := by
  have h1 := h.s0; have h2 := h.s1; have h3 := h.s2; have h4 := h.d0; have h5 := h.d1; have h6 := h.tms; have h7 := hc.t2
  refine ⟨by omega, ⟨by omega, by omega⟩, ⟨by omega, by omega⟩, by rw [h.args]; decide⟩
theorem RI.give {c : Cf} (hc : OnC c) {now : Int} {i : Is} {x : Wt} (h : RI c now i x) (hd : dueW c now x = true) : RI c now { i with sent := i.sent + 1 } (givW c now x) := by
  have hg : runG c.pb c.pc c.pt now 40 (x.snd, x.due) = runG c.pb c.pc c.pt now 39 (x.snd + 1, x.due + Pc.waitP c.pb c.pc c.pt x.snd) := runG_go (s := (x.snd, x.due)) hd 39
  have hlt : x.snd < c.pt ∧ x.due ≤ now := by
    unfold dueW dueB at hd
    simpa using hd
  have hr := runG_in hc now 39 (x.snd + 1, x.due + Pc.waitP c.pb c.pc c.pt x.snd) (by show x.snd + 1 ≤ _; omega)
  have hw := hc.wait x.snd
  have a0 := h.a0; have a1 := h.a1; have l0 := h.l0; have d0 := h.d0; have d1 := h.d1; have s0 := h.s0; have s1 := h.s1; have ht := h.tms
  refine ⟨h.seq, h.dst, h.prog, h.vers, h.proc, h.args, h.fin, ?_, ?_, ?_, ?_, h.a0, h.a1, ?_, ?_, ?_, ?_⟩
  · show x.tms + 1 = i.sent + 1; omega
  · show 0 ≤ i.sent + 1; omega
  · show i.sent + 1 ≤ (runG c.pb c.pc c.pt now 40 (x.snd, x.due)).1
    rw [hg]; dsimp only at hr; omega
  · show (runG c.pb c.pc c.pt now 40 (x.snd, x.due)).1 ≤ c.pt
    rw [hg]; exact hr.2.1
  · show 0 ≤ (runG c.pb c.pc c.pt now 40 (x.snd, x.due)).2
    rw [hg]; dsimp only at hr; omega
  · show (runG c.pb c.pc c.pt now 40 (x.snd, x.due)).2 ≤ now + (runG c.pb c.pc c.pt now 40 (x.snd, x.due)).1 * 24
    rw [hg]; dsimp only at hr; omega
  · show 0 ≤ now; omega
  · exact Int.le_refl now
theorem givW_idle {c : Cf} (hc : OnC c) (now : Int) {x : Wt} (h : 0 ≤ x.snd) : dueW c now (givW c now x) = false :=
  runG_end (c := c) now 40 (x.snd, x.due) (by show c.pt - x.snd ≤ 40; have := hc.t2; omega)
/-- how the book, the calls that wait and the outcomes fit: n1, n2 are waters of old -/
structure OM (c : Cf) (now next : Int) (I : List Is) (L : List Wt) (D : List Oc) (n1 n2 : Int) : Prop where
  num : ∀ (k : Nat) (i : Is), I[k]? = some i → i.seq = 9 + k
  nxt : next = 9 + I.length
  now0 : 0 ≤ now
  wt : ∀ x ∈ L, ∃ (k : Nat) (i : Is), I[k]? = some i ∧ i.over = false ∧ RI c now i x ∧ now < x.fin
  dn : ∀ d ∈ D, ∃ (k : Nat) (i : Is), I[k]? = some i ∧ i.over = false ∧ d.seq = i.seq ∧ d.at_ = now ∧ (now ≤ i.at_ + Pc.totalP c.pb c.pc c.pt ∧ 0 ≤ i.at_ ∧ i.at_ ≤ now)
  all : ∀ (k : Nat) (i : Is), I[k]? = some i → i.over = false → (∃ x ∈ L, x.seq = i.seq) ∨ (∃ d ∈ D, d.seq = i.seq)
  srt : L.Pairwise (fun a b => a.seq < b.seq ∧ a.fin ≤ b.fin)
  dis : (D.map Oc.seq).Nodup ∧ ∀ d ∈ D, ∀ x ∈ L, d.seq ≠ x.seq
  win : ∀ x ∈ L, next - x.seq ≤ c.win
  lo : ∀ x ∈ L, n1 ≤ x.seq ∧ n2 ≤ x.seq
  lon : n1 ≤ next ∧ n2 ≤ next
section
variable {c : Cf} {now next : Int} {I : List Is} {L : List Wt} {D : List Oc} {n1 n2 : Int}
theorem OM.same_at (h : OM c now next I L D n1 n2) {k k' : Nat} {i i' : Is} (h1 : I[k]? = some i) (h2 : I[k']? = some i') (e : i.seq = i'.seq) : k = k' ∧ i = i' := by
  have a := h.num k i h1
  have b := h.num k' i' h2
  have : k = k' := by omega
  subst this
  rw [h1] at h2
  exact ⟨rfl, Option.some.inj h2⟩
theorem OM.seq_lt (h : OM c now next I L D n1 n2) {x : Wt} (hx : x ∈ L) : 9 ≤ x.seq ∧ x.seq < next := by
  obtain ⟨k, i, h1, h2, h3, _⟩ := h.wt x hx
  have a := h.num k i h1
  have b := h.nxt
  have := (List.getElem?_eq_some_iff.1 h1).1
  have := h3.seq
  omega
theorem OM.water (h : OM c now next I L D n1 n2) (hw : 1 ≤ c.win) : n1 ≤ waterL next L ∧ n2 ≤ waterL next L ∧ next - waterL next L ≤ c.win ∧ 9 ≤ waterL next L ∧ waterL next L ≤ next := by
  cases L with
  | nil =>
    have h1 := h.lon
    have h2 := h.nxt
    unfold waterL
    dsimp only
    omega
  | cons x L =>
    have h1 := h.lo x (by simp)
    have h2 := h.win x (by simp)
    have h3 := h.seq_lt (x := x) (by simp)
    unfold waterL
    dsimp only
    omega
theorem water_le (srt : L.Pairwise (fun a b => a.seq < b.seq ∧ a.fin ≤ b.fin)) {x : Wt} (hx : x ∈ L) : waterL next L ≤ x.seq := by
  cases L with
  | nil => cases hx
  | cons y L =>
    unfold waterL
    dsimp only
    rcases List.mem_cons.1 hx with e | e
    · rw [e]; exact Int.le_refl _
    · have := (List.pairwise_cons.1 srt).1 x e
      omega
end
end Go.Proofs.YtfcbjcebkahehaaGreatDoor.Cl
namespace Go.Proofs.YtfcbjcebkahehaaGreatDoor.Cl
open Go.RowKit
theorem OM.start (c : Cf) : OM c 0 9 [] [] [] 0 0 :=
  ⟨fun k i h => by simp at h, rfl, Int.le_refl _, fun x h => (by cases h), fun d h => (by cases h), fun k i h => by simp at h, List.Pairwise.nil, ⟨List.nodup_nil, fun d h => (by cases h)⟩, fun x h => (by cases h), fun x h => (by cases h), by omega, by omega⟩
/-- over now -/
def mark1 (I : List Is) (s : Int) : List Is := I.modify (s - 9).toNat (fun i => { i with over := true })
/-- sent once more -/
def bump1 (I : List Is) (s : Int) : List Is := I.modify (s - 9).toNat (fun i => { i with sent := i.sent + 1 })
theorem mod_len (I : List Is) (k : Nat) (f : Is → Is) : (I.modify k f).length = I.length := by simp
theorem mod_at {I : List Is} {k j : Nat} {f : Is → Is} {i : Is} (h : (I.modify k f)[j]? = some i) : ∃ i0, I[j]? = some i0 ∧ ((k = j ∧ i = f i0) ∨ (k ≠ j ∧ i = i0)) := by
  rw [List.getElem?_modify] at h
  cases hj : I[j]? with
  | none => rw [hj] at h; simp at h
  | some i0 =>
    rw [hj] at h
    refine ⟨i0, rfl, ?_⟩
    by_cases hk : k = j
    · simp only [if_pos hk] at h; exact .inl ⟨hk, (Option.some.inj h).symm⟩
    · simp only [if_neg hk] at h; exact .inr ⟨hk, (Option.some.inj h).symm⟩
theorem mod_is {I : List Is} {k : Nat} {f : Is → Is} {i : Is} (h : I[k]? = some i) : (I.modify k f)[k]? = some (f i) := by rw [List.getElem?_modify, h]; simp
theorem mod_ne {I : List Is} {k j : Nat} {f : Is → Is} {i : Is} (h : I[j]? = some i) (hk : k ≠ j) : (I.modify k f)[j]? = some i := by rw [List.getElem?_modify, h]; simp [hk]
section
variable {c : Cf} {now next : Int} {I : List Is} {L : List Wt} {D : List Oc} {n1 n2 : Int}
theorem OM.call (h : OM c now next I L [] n1 n2) (hc : OnC c) {x : Wt} {fin : Int} (hx : x.isNew 65636 7 1 2 [97, 98, 99, 100] now fin next) (hf : fin = now + Pc.totalP c.pb c.pc c.pt) (hw : next - waterL next L < c.win) : OM c now (next + 1) (I ++ [⟨next, now, 0, false⟩]) (L ++ [x]) [] n1 n2 := by
  obtain ⟨e1, e2, e3, e4, e5, e6, e7, e8, e9, e10, e11⟩ := hx
  have hn := h.nxt
  have hp := hc.tpos
  have h0 := h.now0
  have hpt := hc.t1
  have hnew : (I ++ [(⟨next, now, 0, false⟩ : Is)])[I.length]? = some ⟨next, now, 0, false⟩ := by simp
  have hold : ∀ {k : Nat} {i : Is}, I[k]? = some i → (I ++ [(⟨next, now, 0, false⟩ : Is)])[k]? = some i := fun hk => by
    rw [List.getElem?_append_left (List.getElem?_eq_some_iff.1 hk).1]; exact hk
  have hinv : ∀ {k : Nat} {i : Is}, (I ++ [(⟨next, now, 0, false⟩ : Is)])[k]? = some i → I[k]? = some i ∨ (k = I.length ∧ i = ⟨next, now, 0, false⟩) := fun {k i} hk => by
    rcases Nat.lt_or_ge k I.length with hl | hl
    · rw [List.getElem?_append_left hl] at hk; exact .inl hk
    · rw [List.getElem?_append_right hl] at hk
      have : k - I.length = 0 := by
        have := (List.getElem?_eq_some_iff.1 hk).1
        simp at this; omega
      rw [this] at hk
      exact .inr ⟨by omega, by simpa using hk.symm⟩
  refine ⟨fun k i hk => ?_, by simp; omega, h0, fun y hy => ?_, fun d hd => (by cases hd), fun k i hk ho => ?_, ?_, ⟨List.nodup_nil, fun d h => (by cases h)⟩, fun y hy => ?_, fun y hy => ?_, by have := h.lon; omega⟩
  · rcases hinv hk with e | ⟨rfl, rfl⟩
    · exact h.num k i e
    · exact hn
  · rcases List.mem_append.1 hy with e | e
    · obtain ⟨k, i, a1, a2, a3, a4⟩ := h.wt y e
      exact ⟨k, i, hold a1, a2, a3, a4⟩
    · simp at e
      subst e
      exact ⟨I.length, _, hnew, rfl, ⟨e11, e1, e2, e3, e4, e5, e8.trans hf, e9, Int.le_refl _, by rw [e6]; exact Int.le_refl 0, by rw [e6]; omega, h0, Int.le_refl _, by rw [e7]; exact h0, by rw [e7, e6]; omega, by rw [e10]; omega, by rw [e10]; exact h0⟩, by rw [e8, hf]; omega⟩
  · rcases hinv hk with e | ⟨rfl, rfl⟩
    · rcases h.all k i e ho with ⟨y, hy, he⟩ | ⟨d, hd, _⟩
      · exact .inl ⟨y, List.mem_append_left _ hy, he⟩
      · cases hd
    · exact .inl ⟨x, by simp, e11⟩
  · rw [List.pairwise_append]
    refine ⟨h.srt, by simp, fun y hy z hz => ?_⟩
    simp at hz
    subst hz
    obtain ⟨k, i, a1, a2, a3, a4⟩ := h.wt y hy
    have := h.seq_lt hy
    have := a3.fin
    have := a3.a1
    exact ⟨by rw [e11]; omega, by rw [e8, hf]; omega⟩
  · rcases List.mem_append.1 hy with e | e
    · have := water_le (next := next) h.srt e
      omega
    · simp at e
      subst e
      have := hc.w1
      rw [e11]; omega
  · have := h.lon
    rcases List.mem_append.1 hy with e | e
    · exact h.lo y e
    · simp at e
      subst e
      rw [e11]; omega
theorem OM.raise (h : OM c now next I L D n1 n2) : OM c now next I L D (waterL next L) n2 :=
  ⟨h.num, h.nxt, h.now0, h.wt, h.dn, h.all, h.srt, h.dis, h.win, fun x hx => ⟨water_le h.srt hx, (h.lo x hx).2⟩, ⟨by
    cases L with
    | nil => exact Int.le_refl _
    | cons y L => have := h.seq_lt (x := y) (by simp); unfold waterL; dsimp only; omega, h.lon.2⟩⟩
theorem OM.raise2 (h : OM c now next I L D n1 n2) : OM c now next I L D n1 (waterL next L) :=
  ⟨h.num, h.nxt, h.now0, h.wt, h.dn, h.all, h.srt, h.dis, h.win, fun x hx => ⟨(h.lo x hx).1, water_le h.srt hx⟩, ⟨h.lon.1, by
    cases L with
    | nil => exact Int.le_refl _
    | cons y L => have := h.seq_lt (x := y) (by simp); unfold waterL; dsimp only; omega⟩⟩
theorem srt_apart {A B : List Wt} (h : (A ++ B).Pairwise (fun a b => a.seq < b.seq ∧ a.fin ≤ b.fin)) {x y : Wt} (hx : x ∈ A) (hy : y ∈ B) : x.seq < y.seq ∧ x.fin ≤ y.fin := (List.pairwise_append.1 h).2.2 x hx y hy
theorem OM.hear {A R : List Wt} {x : Wt} (h : OM c now next I (A ++ x :: R) [] n1 n2) {o : Oc} (hs : o.seq = x.seq) (ha : o.at_ = now) : OM c now next I (A ++ R) [o] n1 n2 := by
  have hm : ∀ y ∈ A ++ R, y ∈ A ++ x :: R := fun y hy => by
    rcases List.mem_append.1 hy with e | e
    · exact List.mem_append_left _ e
    · exact List.mem_append_right _ (List.mem_cons_of_mem _ e)
  have hne : ∀ y ∈ A ++ R, y.seq ≠ x.seq := fun y hy => by
    rcases List.mem_append.1 hy with e | e
    · have := (srt_apart h.srt e (y := x) (by simp)).1; omega
    · have := (List.pairwise_cons.1 (List.pairwise_append.1 h.srt).2.1).1 y e; omega
  obtain ⟨k, i, a1, a2, a3, a4⟩ := h.wt x (by simp)
  refine ⟨h.num, h.nxt, h.now0, fun y hy => h.wt y (hm y hy), fun d hd => ?_, fun k' i' hk ho => ?_, h.srt.sublist (List.Sublist.append (List.Sublist.refl _) (List.sublist_cons_self _ _)), ⟨by simp, fun d hd y hy => ?_⟩, fun y hy => h.win y (hm y hy), fun y hy => h.lo y (hm y hy), h.lon⟩
  · simp at hd
    subst hd
    have := a3.fin
    have := a3.a0
    have := a3.a1
    exact ⟨k, i, a1, a2, hs.trans a3.seq, ha, by omega, by omega, by omega⟩
  · rcases h.all k' i' hk ho with ⟨y, hy, he⟩ | ⟨d, hd, _⟩
    · rcases List.mem_append.1 hy with e | e
      · exact .inl ⟨y, List.mem_append_left _ e, he⟩
      · rcases List.mem_cons.1 e with rfl | e
        · exact .inr ⟨o, by simp, hs.trans he⟩
        · exact .inl ⟨y, List.mem_append_right _ e, he⟩
    · cases hd
  · simp at hd
    subst hd
    rw [hs]
    exact fun e => hne y hy e.symm
theorem take_app (p : Wt → Bool) (L : List Wt) : L.takeWhile p ++ L.dropWhile p = L := List.takeWhile_append_dropWhile
theorem drop_keeps {p : Wt → Bool} (now : Int) (hp : p = overB now) : ∀ (L : List Wt), L.Pairwise (fun a b => a.seq < b.seq ∧ a.fin ≤ b.fin) → ∀ x ∈ L.dropWhile p, now < x.fin
  | [], _, x, hx => by cases hx
  | y :: L, hs, x, hx => by
    cases hy : p y
    · rw [List.dropWhile_cons_of_neg (by simp [hy])] at hx
      have h1 : now < y.fin := by
        rw [hp] at hy
        unfold overB at hy
        have := of_decide_eq_false hy
        omega
      rcases List.mem_cons.1 hx with e | e
      · rw [e]; exact h1
      · have := (List.pairwise_cons.1 hs).1 x e
        omega
    · rw [List.dropWhile_cons_of_pos hy] at hx
      exact drop_keeps now hp L (List.pairwise_cons.1 hs).2 x hx
theorem take_over (now : Int) : ∀ (L : List Wt), ∀ x ∈ L.takeWhile (overB now), x.fin ≤ now
  | [], x, hx => by cases hx
  | y :: L, x, hx => by
    cases hy : overB now y
    · rw [List.takeWhile_cons_of_neg (by simp [hy])] at hx; cases hx
    · rw [List.takeWhile_cons_of_pos hy] at hx
      rcases List.mem_cons.1 hx with e | e
      · rw [e]
        unfold overB at hy
        exact of_decide_eq_true hy
      · exact take_over now L x e
theorem OM.tick (h : OM c now next I L [] n1 n2) : OM c (now + 1) next I (L.dropWhile (overB (now + 1))) ((L.takeWhile (overB (now + 1))).map (tOut (now + 1))) n1 n2 := by
  obtain ⟨A, hA⟩ : ∃ A, L.takeWhile (overB (now + 1)) = A := ⟨_, rfl⟩
  obtain ⟨R, hR⟩ : ∃ R, L.dropWhile (overB (now + 1)) = R := ⟨_, rfl⟩
  have hAR : A ++ R = L := by rw [← hA, ← hR]; exact take_app _ L
  have hmR : ∀ y ∈ R, y ∈ L := fun y hy => by rw [← hAR]; exact List.mem_append_right _ hy
  have hmA : ∀ y ∈ A, y ∈ L := fun y hy => by rw [← hAR]; exact List.mem_append_left _ hy
  have hk : ∀ x ∈ R, now + 1 < x.fin := by rw [← hR]; exact drop_keeps (now + 1) rfl L h.srt
  have ho : ∀ x ∈ A, x.fin ≤ now + 1 := by rw [← hA]; exact take_over (now + 1) L
  have hs : (A ++ R).Pairwise (fun a b => a.seq < b.seq ∧ a.fin ≤ b.fin) := by rw [hAR]; exact h.srt
  have h0 := h.now0
  rw [hA, hR]
  refine ⟨h.num, h.nxt, by omega, fun y hy => ?_, fun d hd => ?_, fun k i hk' ho' => ?_, (List.pairwise_append.1 hs).2.1, ⟨?_, fun d hd y hy => ?_⟩, fun y hy => h.win y (hmR y hy), fun y hy => h.lo y (hmR y hy), h.lon⟩
  · obtain ⟨k, i, a1, a2, a3, a4⟩ := h.wt y (hmR y hy)
    exact ⟨k, i, a1, a2, a3.later, hk y hy⟩
  · obtain ⟨x, hx, rfl⟩ := List.mem_map.1 hd
    obtain ⟨k, i, a1, a2, a3, a4⟩ := h.wt x (hmA x hx)
    have := a3.fin
    have := a3.a0
    have := a3.a1
    exact ⟨k, i, a1, a2, a3.seq, rfl, by omega, by omega, by omega⟩
  · rcases h.all k i hk' ho' with ⟨y, hy, he⟩ | ⟨d, hd, _⟩
    · rw [← hAR] at hy
      rcases List.mem_append.1 hy with e | e
      · exact .inr ⟨_, List.mem_map_of_mem e, he⟩
      · exact .inl ⟨y, e, he⟩
    · cases hd
  · have hp := (List.pairwise_append.1 hs).1
    rw [List.map_map]
    refine List.pairwise_map.2 (hp.imp fun {a b} e => ?_)
    show a.seq ≠ b.seq
    omega
  · obtain ⟨x, hx, rfl⟩ := List.mem_map.1 hd
    have := (srt_apart hs hx hy).1
    show x.seq ≠ y.seq
    omega
theorem OM.mark {d : Oc} (h : OM c now next I L (d :: D) n1 n2) : OM c now next (mark1 I d.seq) L D n1 n2 ∧ ∃ (k : Nat) (i : Is), I[k]? = some i ∧ d.seq = 9 + k ∧ i.over = false ∧ d.at_ = now ∧ (now ≤ i.at_ + Pc.totalP c.pb c.pc c.pt ∧ 0 ≤ i.at_ ∧ i.at_ ≤ now) := by
  obtain ⟨k, i, a1, a2, a3, a4, a5⟩ := h.dn d (by simp)
  have hk : d.seq = 9 + k := a3.trans (h.num k i a1)
  have hkn : (d.seq - 9).toNat = k := by omega
  refine ⟨?_, k, i, a1, hk, a2, a4, a5⟩
  unfold mark1
  rw [hkn]
  refine ⟨fun k' i' hk' => ?_, by rw [mod_len]; exact h.nxt, h.now0, fun x hx => ?_, fun d' hd' => ?_, fun k' i' hk' ho => ?_, h.srt, ⟨(List.nodup_cons.1 h.dis.1).2, fun d' hd' => h.dis.2 d' (List.mem_cons_of_mem _ hd')⟩, h.win, h.lo, h.lon⟩
  · obtain ⟨i0, b1, b2 | b2⟩ := mod_at hk'
    · rw [b2.2]; exact h.num k' i0 b1
    · rw [b2.2]; exact h.num k' i0 b1
  · obtain ⟨k', i', b1, b2, b3, b4⟩ := h.wt x hx
    refine ⟨k', i', mod_ne b1 (fun e => ?_), b2, b3, b4⟩
    subst e
    rw [a1] at b1
    cases b1
    exact h.dis.2 d (by simp) x hx (a3.trans b3.seq.symm)
  · obtain ⟨k', i', b1, b2, b3, b4, b5⟩ := h.dn d' (List.mem_cons_of_mem _ hd')
    refine ⟨k', i', mod_ne b1 (fun e => ?_), b2, b3, b4, b5⟩
    subst e
    rw [a1] at b1
    cases b1
    have := (List.nodup_cons.1 (by simpa using h.dis.1 : (d.seq :: D.map Oc.seq).Nodup)).1
    exact this (List.mem_map.2 ⟨d', hd', b3.trans a3.symm⟩)
  · obtain ⟨i0, b1, b2 | b2⟩ := mod_at hk'
    · rw [b2.2] at ho; cases ho
    · rw [b2.2] at ho ⊢
      rcases h.all k' i0 b1 ho with e | ⟨d', hd', he⟩
      · exact .inl e
      · rcases List.mem_cons.1 hd' with rfl | e
        · exact absurd (h.same_at a1 b1 (a3.symm.trans he)).1 b2.1
        · exact .inr ⟨d', e, he⟩
/-- the sequences of the calls without an outcome -/
def novI (I : List Is) : List Int := (I.filter (fun i => !i.over)).map Is.seq
theorem sorted_same : ∀ {a b : List Int}, a.Pairwise (· < ·) → b.Pairwise (· < ·) → (∀ x, x ∈ a ↔ x ∈ b) → a = b
  | [], [], _, _, _ => rfl
  | [], y :: b, _, _, h => by have := (h y).2 (by simp); cases this
  | x :: a, [], _, _, h => by have := (h x).1 (by simp); cases this
  | x :: a, y :: b, ha, hb, h => by
    have ha' := List.pairwise_cons.1 ha
    have hb' := List.pairwise_cons.1 hb
    have hxy : x = y := by
      rcases List.mem_cons.1 ((h x).1 (by simp)) with e | e
      · exact e
      · rcases List.mem_cons.1 ((h y).2 (by simp)) with e2 | e2
        · exact e2.symm
        · have := ha'.1 y e2
          have := hb'.1 x e
          omega
    subst hxy
    rw [sorted_same ha'.2 hb'.2 (fun z => ⟨fun hz => ?_, fun hz => ?_⟩)]
    · rcases List.mem_cons.1 ((h z).1 (List.mem_cons_of_mem _ hz)) with e | e
      · have := ha'.1 z hz; omega
      · exact e
    · rcases List.mem_cons.1 ((h z).2 (List.mem_cons_of_mem _ hz)) with e | e
      · have := hb'.1 z hz; omega
      · exact e
theorem OM.issued (h : OM c now next I L D n1 n2) : I.Pairwise (fun a b => a.seq < b.seq) := by
  rw [List.pairwise_iff_getElem]
  intro i j hi hj hij
  have a := h.num i _ (List.getElem?_eq_getElem hi)
  have b := h.num j _ (List.getElem?_eq_getElem hj)
  omega
theorem OM.nov (h : OM c now next I L [] n1 n2) : novI I = L.map Wt.seq := by
  refine sorted_same ?_ ?_ (fun z => ⟨fun hz => ?_, fun hz => ?_⟩)
  · exact List.pairwise_map.2 ((h.issued.sublist List.filter_sublist).imp fun e => e)
  · exact List.pairwise_map.2 (h.srt.imp fun e => e.1)
  · obtain ⟨i, hi, rfl⟩ := List.mem_map.1 hz
    obtain ⟨hi1, hi2⟩ := List.mem_filter.1 hi
    obtain ⟨k, hk⟩ := List.mem_iff_getElem?.1 hi1
    rcases h.all k i hk (by simpa using hi2) with ⟨x, hx, e⟩ | ⟨d, hd, _⟩
    · exact List.mem_map.2 ⟨x, hx, e⟩
    · cases hd
  · obtain ⟨x, hx, rfl⟩ := List.mem_map.1 hz
    obtain ⟨k, i, a1, a2, a3, _⟩ := h.wt x hx
    exact List.mem_map.2 ⟨i, List.mem_filter.2 ⟨List.mem_of_getElem? a1, by simp [a2]⟩, a3.seq.symm⟩
/-- each call without an outcome ends later -/
theorem OM.soon (h : OM c now next I L [] n1 n2) {k : Nat} {i : Is} (hk : I[k]? = some i) (ho : i.over = false) : now < i.at_ + Pc.totalP c.pb c.pc c.pt ∧ 0 ≤ i.at_ ∧ i.at_ ≤ now := by
  rcases h.all k i hk ho with ⟨x, hx, e⟩ | ⟨d, hd, _⟩
  · obtain ⟨k', i', a1, a2, a3, a4⟩ := h.wt x hx
    obtain ⟨rfl, rfl⟩ := h.same_at a1 hk (a3.seq.symm.trans e)
    have := a3.fin
    have := a3.a0
    have := a3.a1
    omega
  · cases hd
end
end Go.Proofs.YtfcbjcebkahehaaGreatDoor.Cl
namespace Go.Proofs.YtfcbjcebkahehaaGreatDoor.Cl
open Go.RowKit
def isC (i : Is) : List Value := [.int .i64 i.seq, .int .i64 i.at_, .int .i64 i.sent, .bool i.over]
theorem isL (i : Is) : (isC i).length = 4 := rfl
theorem isO (i : Is) : ∀ u ∈ isC i, u.oneCell' = true := by
  intro u hu
  simp only [isC, List.mem_cons, List.not_mem_nil, or_false] at hu
  rcases hu with rfl | rfl | rfl | rfl <;> rfl
theorem info99 : ∃ i z, Tryz.prog.info? 99 = some i ∧ i.zero = some z ∧ i.size = 4 ∧ i.bytes = 32 ∧ z.cells.size = 4 :=
  ⟨(Tryz.prog.info? 99).getD default, .agg #[.int .i64 0, .int .i64 0, .int .i64 0, .bool false], by kernel_rfl, by kernel_rfl, by kernel_rfl, by kernel_rfl, by kernel_rfl⟩
theorem under61 : Tryz.prog.underlying 61 = some (.slice 99) := by kernel_rfl
theorem app61 {K : Nat → Nat} {w : World} {B t : Nat} {v : Value} {l : List Is} (h : RW 99 4 isC K w B t v l) (hB : B ≤ w.heap.size) {N : Nat} {x : Is} (hb : w.heap[N]? = some (.cells (isC x).toArray 99 (0, 0))) (hl : l.length ≤ 100000000) :
    ∃ oa c w' K', (∀ r, (Builtin.append_ #[61, 61] r #[v, .slice (some ⟨N, 0, none⟩) 1 1]).run Tryz.prog w = .ok (.slice oa (l.length + 1) c) w') ∧ RW 99 4 isC K' w' B t (.slice oa (l.length + 1) c) (l ++ [x]) ∧ Mv (fun x => x = t) w w' K K' := by
  obtain ⟨i, z, hi, hz, hs, hby, hzs⟩ := info99
  obtain ⟨v', w', K', q1, q2, q3⟩ := RW.app (ty := 61) under61 hi hz hs hby hzs (by omega) isL isO h hB (N := N) (x := x) (cs := (isC x).toArray) rfl hb (by omega) (by omega)
  obtain ⟨oa, c, e, _, _⟩ := q2.form
  rw [List.length_append, List.length_singleton] at e
  subst e
  exact ⟨oa, c, w', K', q1, q2, q3⟩
theorem RW.is4 {K : Nat → Nat} {w : World} {B t : Nat} {g n cap : Nat} {I : List Is} (h : RW 99 4 isC K w B t (.slice (some ⟨g, 0, none⟩) n cap) I) (hn : I.length = n) {j : Nat} {i : Is} (hi : I[j]? = some i) :
    w.cell? ⟨g, j * 4, none⟩ = some (.int .i64 i.seq) ∧ w.cell? ⟨g, j * 4 + 1, none⟩ = some (.int .i64 i.at_) ∧ w.cell? ⟨g, j * 4 + 2, none⟩ = some (.int .i64 i.sent) ∧ w.cell? ⟨g, j * 4 + 3, none⟩ = some (.bool i.over) :=
  ⟨h.cell isL hn hi 0 (by omega), h.cell isL hn hi 1 (by omega), h.cell isL hn hi 2 (by omega), h.cell isL hn hi 3 (by omega)⟩
theorem RW.frozen {K : Nat → Nat} {w : World} {B t : Nat} {g n cap : Nat} {I : List Is} (h : RW 99 4 isC K w B t (.slice (some ⟨g, 0, none⟩) n cap) I) (k : Nat) : w.frozen? ⟨g, k, none⟩ = false := by
  rcases h.own.2 with ⟨e, _⟩ | ⟨g', cap', cur, e, h1, h2, h3⟩
  · cases e
  · simp only [Value.slice.injEq, Option.some.injEq, Addr.mk.injEq] at e
    obtain ⟨⟨rfl, _⟩, _, rfl⟩ := e
    exact frozen_at h2 _
theorem PC.to' {T : Nat → Prop} {K K' : Nat → Nat} {w w' : World} {B t p : Nat} {c : Cf} {oa : Option Addr} {cap : Nat} {next now : Int} {L : List Wt} {D : List Oc} {vw vd : Value} {q : Mq} (h : PC K w B t p c oa cap next now L D vw vd q) (m : Mv T w w' K K') (ht : ∀ t', T t' → t + 6 < t') : PC K' w' B t p c oa cap next now L D vw vd q := h.to m ht
theorem pick_any (c : Int) (n : Int) (hc : -9223372036854775808 ≤ c ∧ c ≤ 9223372036854775807) (hn : 0 < n) (w : World) : Calls Tryz.prog 10 #[.int .i64 c, .int .i64 n] w fun e w' => ∃ k : Int, e = .returned (.int .i64 k) ∧ 0 ≤ k ∧ k < n ∧ w' = w := by
  by_cases h : c < 0
  · obtain ⟨d, hd⟩ : ∃ d, -(c + 1) = d := ⟨_, rfl⟩
    have hd0 : 0 ≤ d := by omega
    have hk : 0 ≤ d % n ∧ d % n < n := ⟨Int.emod_nonneg _ (by omega), Int.emod_lt_of_pos _ hn⟩
    go_enter Tryz.func10, Tryz.ntmps10
    go_wp2
    go_ret
    exact ⟨_, rfl, by first | exact hk.1 | (rw [hd]; exact hk.1), by first | exact hk.2 | (rw [hd]; exact hk.2), rfl⟩
  · have hk : 0 ≤ c % n ∧ c % n < n := ⟨Int.emod_nonneg _ (by omega), Int.emod_lt_of_pos _ hn⟩
    go_enter Tryz.func10, Tryz.ntmps10
    go_wp2
    go_ret
    exact ⟨_, rfl, hk.1, hk.2, rfl⟩
def ofP (m : Nat) (n : Int) : Int := if 9 ≤ n ∧ n < 9 + m then n - 9 else -1
abbrev lfB (p : Nat) (vi : Value) (n1 n2 : Int) : Obj := .cells #[ptr p, vi, .int .i64 n1, .int .i64 n2] 63
set_option maxRecDepth 8000 in
theorem of_any {K : Nat → Nat} {w : World} {B tx ti xb p : Nat} {vi : Value} {n1 n2 : Int} {I : List Is} (hx : TB K w tx xb (lfB p vi n1 n2)) (hr : RW 99 4 isC K w B ti vi I) (hnum : ∀ (k : Nat) (i : Is), I[k]? = some i → i.seq = 9 + k) (n : Int) (hI : I.length ≤ 100000000) :
    Calls Tryz.prog 48 #[ptr xb, .int .i64 n] w fun e w' => e = .returned (.int .i64 (ofP I.length n)) ∧ w' = w := by
  obtain ⟨o, cp, rfl, _, hg⟩ := hr.form
  obtain ⟨m, hm⟩ : ∃ m, I.length = m := ⟨_, rfl⟩
  rw [hm] at hx hr ⊢
  have c1 : w.cell? ⟨xb, 1, none⟩ = some (.slice o m cp) := cell_at hx.at_ rfl
  have HR := hid hr
  have HG := hid hg
  have HN := hid hnum
  have HM := hid hm
  have HB : Hid (m ≤ 100000000) := by rw [← hm]; exact hI
  clear hx hr hg hnum hm hI
  go_enter Tryz.func48, Tryz.ntmps48
  go_wp2_with fail
  go_loopw [5] (fun u5 wr => ∃ (j : Nat), u5 = .int .i64 (j : Int) ∧ j ≤ m ∧ Hid (wr = w ∧ ¬ (9 ≤ n ∧ n < 9 + (j : Int)))) (fun u5 _ => m - (intOf u5).toNat)
  case atStart => exact ⟨0, rfl, by omega, rfl, by omega⟩
  case round =>
    obtain ⟨j, rfl, hjm, HJ⟩ := hrel
    obtain ⟨wo, hwo⟩ : ∃ yy, yy = wr := ⟨_, rfl⟩
    subst hwo
    obtain ⟨hww, hno⟩ := HJ.out
    subst hww
    by_cases hj : j < m
    · have hji : (j : Int) < (m : Int) := by omega
      obtain ⟨g, rfl⟩ := HG.out (by have := HM.out; omega)
      obtain ⟨i, hi⟩ : ∃ i, I[j]? = some i := ⟨_, List.getElem?_eq_getElem (by have := HM.out; omega)⟩
      have d0 := (HR.out.is4 HM.out hi).1
      have hs := HN.out j i hi
      have hj1 : wrap64 ((j : Int) + 1) = (j : Int) + 1 := wrapS (by have := HB.out; omega)
      by_cases he : i.seq = n
      · have hF : Hid (ofP m n = j) := by
          show _ = _
          unfold ofP
          rw [if_pos (by omega)]
          omega
        rw [he] at d0
        clear hs hno HJ he hi
        go_wp2
        go_ret
        exact ⟨by rw [hF.out]; rfl, rfl⟩
      · have hne : (i.seq == n) = false := by simpa using he
        have HF : Hid (wo = wo ∧ ¬ (9 ≤ n ∧ n < 9 + ((j + 1 : Nat) : Int))) := ⟨rfl, by omega⟩
        clear hs hno HJ he hi
        go_wp2
        go_roundw
        case rel => exact ⟨j + 1, by first | (simp; done) | (rw [hj1]; simp), by omega, trivial, HF.out.2⟩
        case measure => exact meas (by first | rfl | exact hj1) hji
    · obtain rfl : j = m := by omega
      have hF : Hid (ofP j n = -1) := by
        show _ = _
        unfold ofP
        rw [if_neg hno]
      clear hno HJ hj
      go_wp2
      go_ret
      exact ⟨by rw [hF.out]; rfl, rfl⟩
/-- a client's life in memory -/
structure LF (K : Nat → Nat) (w : World) (B t p xb : Nat) (c : Cf) (oa : Option Addr) (cap : Nat) (next now : Int) (L : List Wt) (D : List Oc) (vw vd : Value) (q : Mq) (vi : Value) (I : List Is) (n1 n2 : Int) : Prop where
  pc : PC K w B t p c oa cap next now L D vw vd q
  me : TB K w (t + 20) xb (lfB p vi n1 n2)
  is : RW 99 4 isC K w B (t + 21) vi I
  om : OM c now next I L D n1 n2
  hc : OnC c
  hI : I.length ≤ 50000000
  hn : now ≤ 100000000
section
variable {K K' : Nat → Nat} {w w' : World} {B t p xb : Nat} {c : Cf} {oa : Option Addr} {cap : Nat} {next now : Int} {L : List Wt} {D : List Oc} {vw vd : Value} {q : Mq} {vi : Value} {I : List Is} {n1 n2 : Int}
theorem LF.of_any (h : LF K w B t p xb c oa cap next now L D vw vd q vi I n1 n2) (n : Int) : Calls Tryz.prog 48 #[ptr xb, .int .i64 n] w fun e w' => e = .returned (.int .i64 (ofP I.length n)) ∧ w' = w :=
  Cl.of_any h.me h.is h.om.num n (by have := h.hI; omega)
theorem LF.to {T : Nat → Prop} (h : LF K w B t p xb c oa cap next now L D vw vd q vi I n1 n2) (m : Mv T w w' K K') (ht : ∀ t', T t' → t + 21 < t') : LF K' w' B t p xb c oa cap next now L D vw vd q vi I n1 n2 :=
  ⟨h.pc.to m (fun t' e => by have := ht t' e; omega), h.me.mv m (fun e => by have := ht _ e; omega), h.is.mv m (fun e => by have := ht _ e; omega), h.om, h.hc, h.hI, h.hn⟩
theorem LF.ce0 (h : LF K w B t p xb c oa cap next now L D vw vd q vi I n1 n2) : w.cell? ⟨xb, 0, none⟩ = some (ptr p) ∧ w.cell? ⟨xb, 1, none⟩ = some vi ∧ w.cell? ⟨xb, 2, none⟩ = some (.int .i64 n1) ∧ w.cell? ⟨xb, 3, none⟩ = some (.int .i64 n2) := ⟨cell_at h.me.at_ rfl, cell_at h.me.at_ rfl, cell_at h.me.at_ rfl, cell_at h.me.at_ rfl⟩
end
end Go.Proofs.YtfcbjcebkahehaaGreatDoor.Cl
namespace Go.Proofs.YtfcbjcebkahehaaGreatDoor.Cl
open Go.RowKit
/-- a region that draws its order, whose operations yield the same in every world of a class -/
theorem wp_region_class {P : Program} {Z : Type} (f : Z → World) {id : Nat} {Q : Exit → Act → World → Prop} {a : Act} {w : World} {l : List Oper} (hm : P.follows .mixedOrders = true) (hB : Region.lexB .any l.toArray = true) (hC : ∃ z, w.drew = f z)
    (h : wpQuiet P l.toArray (fun w' => ∃ z, w' = f z) (fun a' => ∀ w', (∃ z, w' = f z) → Q .normal a' w') l a) : (Code.region id l.toArray true).wp P Q a w :=
  wp_region_quiet (C := fun w' => ∃ z, w' = f z) hm hB hC (by simpa using h)
theorem mod_mid (f : Is → Is) (i : Is) (L2 : List Is) : ∀ L1 : List Is, (L1 ++ i :: L2).modify L1.length f = L1 ++ f i :: L2
  | [] => by simp [List.modify]
  | x :: L1 => by
    have := mod_mid f i L2 L1
    simpa using this
theorem mid_of {I : List Is} {k : Nat} {i : Is} (h : I[k]? = some i) : ∃ L1 L2, I = L1 ++ i :: L2 ∧ L1.length = k := by
  have hk := (List.getElem?_eq_some_iff.1 h).1
  refine ⟨I.take k, I.drop (k + 1), ?_, by rw [List.length_take]; omega⟩
  have e : I[k] = i := (List.getElem?_eq_some_iff.1 h).2
  rw [← e]
  simp
theorem mark_len (I : List Is) (s : Int) : (mark1 I s).length = I.length := mod_len I _ _
theorem bump_len (I : List Is) (s : Int) : (bump1 I s).length = I.length := mod_len I _ _
/-- what the list of calls that were issued is written with -/
theorem RW.isSet {K : Nat → Nat} {w : World} {B t g n cap k : Nat} {I : List Is} {i : Is} (h : RW 99 4 isC K w B t (.slice (some ⟨g, 0, none⟩) n cap) I) (hn : I.length = n) (hi : I[k]? = some i) (f : Is → Is) (j : Nat) (u : Value) (hj : j < 4) (hx : (isC i).set j u = isC (f i)) :
    RW 99 4 isC K (w.setCell ⟨g, k * 4 + j, none⟩ u) B t (.slice (some ⟨g, 0, none⟩) n cap) (I.modify k f) ∧ Mv (fun y => y = t) w (w.setCell ⟨g, k * 4 + j, none⟩ u) K K := by
  obtain ⟨L1, L2, rfl, rfl⟩ := mid_of hi
  rw [mod_mid]
  exact h.set1 isL hn j u hj hx
/-- behind some of the outcomes -/
structure LE (K : Nat → Nat) (w : World) (B t p xb S : Nat) (c : Cf) (oa : Option Addr) (cap : Nat) (next now : Int) (L : List Wt) (vw : Value) (q : Mq) (vi : Value) (I : List Is) (n1 n2 : Int) (v : Value) (D R : List Oc) : Prop where
  pc : PC K w B t p c oa cap next now L [] vw (.slice none 0 0) q
  me : TB K w (t + 20) xb (lfB p vi n1 n2)
  is : RW 99 4 isC K w B (t + 21) vi I
  om : OM c now next I L R n1 n2
  ls : RW 80 9 ocC K w B (t + 2) v D
  bx : TB K w (t + 30) S (.cells #[.int .i64 c.pb, .int .i64 c.pc, .int .i64 c.pt] 23)
section
variable {K K' : Nat → Nat} {w w' : World} {B t p xb S : Nat} {c : Cf} {oa : Option Addr} {cap : Nat} {next now : Int} {L : List Wt} {D R : List Oc} {vw vd v : Value} {q : Mq} {vi : Value} {I : List Is} {n1 n2 : Int}
theorem LE.to {T : Nat → Prop} (h : LE K w B t p xb S c oa cap next now L vw q vi I n1 n2 v D R) (m : Mv T w w' K K') (ht : ∀ t', T t' → t + 30 < t') : LE K' w' B t p xb S c oa cap next now L vw q vi I n1 n2 v D R :=
  ⟨h.pc.to m (fun t' e => by have := ht t' e; omega), h.me.mv m (fun e => by have := ht _ e; omega), h.is.mv m (fun e => by have := ht _ e; omega), h.om, h.ls.mv m (fun e => by have := ht _ e; omega), h.bx.mv m (fun e => by have := ht _ e; omega)⟩
set_option maxRecDepth 8000 in
set_option maxHeartbeats 8000000 in
theorem LF.ends_any (h : LF K w B t p xb c oa cap next now L D vw vd q vi I n1 n2) (hD : D.length ≤ 100000000) :
    Calls Tryz.prog 16 #[ptr xb, .agg #[.int .i64 c.pb, .int .i64 c.pc, .int .i64 c.pt]] w fun e w' => e = .returned (.bool true) ∧ Hid (∃ K' vd' I', LF K' w' B t p xb c oa cap next now L [] vw vd' q vi I' n1 n2 ∧ I'.length = I.length ∧ Mv (fun u => t ≤ u) w w' K K') := by
  have hc := h.hc
  have hIl := h.hI
  have hnw := h.hn
  obtain ⟨S, hS⟩ : ∃ y, w.heap.size = y := ⟨_, rfl⟩
  obtain ⟨w0, hw0⟩ : ∃ y, w.alloc (.cells #[.int .i64 c.pb, .int .i64 c.pc, .int .i64 c.pt] 23) = y := ⟨_, rfl⟩
  have B0 : Below w.heap.size w w0 := by rw [← hw0]; exact (Below.refl _ _).alloc (Nat.le_refl _) _
  have k0 : w0.heap[S]? = some (.cells #[.int .i64 c.pb, .int .i64 c.pc, .int .i64 c.pt] 23) := by rw [← hw0, ← hS]; exact (MapKept.heap_alloc w _).1
  have m0 := Mv.of_below B0 K (fun _ => t + 30)
  have h0 := h.to m0 (fun _ e => e.elim)
  have hKS : ext w K (fun _ => t + 30) S = t + 30 := ext_new (Nat.le_of_eq hS)
  have tS : TB (ext w K (fun _ => t + 30)) w0 (t + 30) S (.cells #[.int .i64 c.pb, .int .i64 c.pc, .int .i64 c.pt] 23) := ⟨k0, hKS⟩
  generalize ext w K (fun _ => t + 30) = K0 at m0 h0 hKS tS
  have x0 := h0.ce0.1
  have HDone := hid h0.pc.done_any
  have H0 : Hid (∀ w1, PC K0 w1 B t p c oa cap next now L [] vw (.slice none 0 0) q → RW 80 9 ocC K0 w1 B (t + 2) vd D → Mv (fun u => u = t) w0 w1 K0 K0 → (∃ K', LE K' w1 B t p xb S c oa cap next now L vw q vi I n1 n2 vd D D ∧ Mv (fun u => t ≤ u) w w1 K K')) := fun w1 P1 R1 m1 =>
    ⟨K0, ⟨P1, h0.me.mv m1 (by omega), h0.is.mv m1 (by omega), h0.om, R1, tS.mv m1 (by omega)⟩, (m0.mono (fun _ e => e.elim)).trans (m1.mono (fun u e => by omega))⟩
  obtain ⟨oI, cI, evi, _, hgI⟩ := h.is.form
  obtain ⟨oD, cD, evd, _, hgD⟩ := h.pc.dn.form
  obtain ⟨n, hn⟩ : ∃ n, D.length = n := ⟨_, rfl⟩
  obtain ⟨mI, hmI⟩ : ∃ m, I.length = m := ⟨_, rfl⟩
  rw [hn] at evd
  rw [hmI] at evi
  subst evd evi
  have HG := hid (And.intro hgI hgD)
  have HN := hid (And.intro hmI (And.intro hn (And.intro (show n ≤ 100000000 by omega) (And.intro hIl (And.intro hnw hc)))))
  rw [hmI]
  clear h h0 hgI hgD hn hD hIl hnw hc m0 tS k0 B0 hKS hmI
  go_enter Tryz.func16, Tryz.ntmps16
  go_wp2_with fail
  refine HDone.out.mono ?_
  rintro _ w1 ⟨rfl, P1, R1, m1⟩
  have HS := hid (H0.out w1 P1 R1 m1)
  clear HDone H0 P1 R1 m1 x0
  go_wp2_with fail
  go_loopw [6] (fun u6 wr => ∃ (j : Nat) (A R : List Oc) (I' : List Is), u6 = .int .i64 (j : Int) ∧ j ≤ n ∧ Hid (A.length = j ∧ A ++ R = D ∧ I'.length = mI ∧ ∃ K', LE K' wr B t p xb S c oa cap next now L vw q (.slice oI mI cI) I' n1 n2 (.slice oD n cD) D R ∧ Mv (fun u => t ≤ u) w wr K K')) (fun u6 _ => n - (intOf u6).toNat)
  case atStart => exact ⟨0, [], D, I, rfl, by omega, rfl, rfl, HN.out.1, HS.out⟩
  case round =>
    obtain ⟨j, A, R, I', rfl, hjn, HR⟩ := hrel
    clear HS
    obtain ⟨wo, hwo⟩ : ∃ yy, yy = wr := ⟨_, rfl⟩
    subst hwo
    obtain ⟨hA, hAR, hI', K1, E, m1⟩ := HR.out
    have hlen : A.length + R.length = n := by rw [← HN.out.2.1, ← hAR]; simp
    cases R with
    | nil =>
      have hjn2 : j = n := by simp at hlen; omega
      subst hjn2
      have HF : Hid (∃ K' vd' I', LF K' wo B t p xb c oa cap next now L [] vw vd' q (.slice oI mI cI) I' n1 n2 ∧ I'.length = mI ∧ Mv (fun u => t ≤ u) w wo K K') := ⟨K1, _, I', ⟨E.pc, E.me, E.is, E.om, HN.out.2.2.2.2.2, by rw [hI', ← HN.out.1]; exact HN.out.2.2.2.1, HN.out.2.2.2.2.1⟩, hI', m1⟩
      clear hA hAR hI' hlen E m1 HR
      go_wp2
      go_ret
      exact ⟨rfl, HF.out⟩
    | cons d R =>
      have hj : j < n := by simp at hlen; omega
      have hji : (j : Int) < (n : Int) := by omega
      obtain ⟨gD, rfl⟩ := HG.out.2 (by rw [HN.out.2.1]; omega)
      obtain ⟨om', k, i, a1, a2, a3, a4, a5, a6, a7⟩ := E.om.mark
      have hkI : k < mI := by rw [← hI']; exact (List.getElem?_eq_some_iff.1 a1).1
      obtain ⟨gI, rfl⟩ := HG.out.1 (by rw [HN.out.1]; omega)
      have hDj : D[j]? = some d := by rw [← hAR, List.getElem?_append_right (by omega), hA]; simp
      have e0 : wo.cell? ⟨gD, j * 9, none⟩ = some (.int .i64 d.seq) := E.ls.cell ocL HN.out.2.1 hDj 0 (by omega)
      have HO : Hid (Calls Tryz.prog 48 #[ptr xb, .int .i64 d.seq] wo fun e w' => e = .returned (.int .i64 (k : Int)) ∧ w' = wo) := by
        have := Cl.of_any E.me E.is E.om.num d.seq (by rw [hI']; have := HN.out.2.2.2.1; rw [HN.out.1] at this; omega)
        have e : ofP I'.length d.seq = (k : Int) := by
          unfold ofP
          rw [if_pos (by rw [hI', a2]; omega), a2]
          omega
        rwa [e] at this
      obtain ⟨Z, f, hf1, hf2⟩ : ∃ (Z : Type) (f : Z → World), (∀ z, Below wo.heap.size wo (f z)) ∧ ∀ w', Below wo.heap.size wo w' → ∃ z, w' = f z := ⟨{ w' // Below wo.heap.size wo w' }, Subtype.val, fun z => z.2, fun w' h => ⟨⟨w', h⟩, rfl⟩⟩
      have hE : ∀ z, LE (ext wo K1 (fun _ => t + 31)) (f z) B t p xb S c oa cap next now L vw q (.slice (some ⟨gI, 0, none⟩) mI cI) I' n1 n2 (.slice (some ⟨gD, 0, none⟩) n cD) D (d :: R) := fun z => E.to (Mv.of_below (hf1 z) K1 _) (fun _ e => e.elim)
      have z0 : ∀ z, (f z).cell? ⟨xb, 0, none⟩ = some (ptr p) := fun z => cell_at (hE z).me.at_ rfl
      have z1 : ∀ z, (f z).cell? ⟨xb, 1, none⟩ = some (.slice (some ⟨gI, 0, none⟩) mI cI) := fun z => cell_at (hE z).me.at_ rfl
      have z2 : ∀ z, (f z).cell? ⟨gI, k * 4 + 1, none⟩ = some (.int .i64 i.at_) := fun z => ((hE z).is.is4 hI' a1).2.1
      have z3 : ∀ z, (f z).cell? ⟨gI, k * 4 + 3, none⟩ = some (.bool false) := fun z => by rw [← a3]; exact ((hE z).is.is4 hI' a1).2.2.2
      have z4 : ∀ z, (f z).cell? ⟨gD, j * 9 + 8, none⟩ = some (.int .i64 now) := fun z => by rw [← a4]; exact (hE z).ls.cell ocL HN.out.2.1 hDj 8 (by omega)
      have z5 : ∀ z, (f z).cell? ⟨S, 0, none⟩ = some (.int .i64 c.pb) := fun z => cell_at (hE z).bx.at_ rfl
      have z6 : ∀ z, (f z).cell? ⟨S, 1, none⟩ = some (.int .i64 c.pc) := fun z => cell_at (hE z).bx.at_ rfl
      have z7 : ∀ z, (f z).cell? ⟨S, 2, none⟩ = some (.int .i64 c.pt) := fun z => cell_at (hE z).bx.at_ rfl
      obtain ⟨tt, htt⟩ : ∃ tt, Pc.totalP c.pb c.pc c.pt = tt := ⟨_, rfl⟩
      rw [htt] at a5
      have htt2 : 0 ≤ tt ∧ tt ≤ 120 := by rw [← htt]; exact HN.out.2.2.2.2.2.total
      have hnw := HN.out.2.2.2.2.1
      obtain ⟨sm, hsm⟩ : ∃ sm, i.at_ + tt = sm := ⟨_, rfl⟩
      have hs1 : wrap64 (i.at_ + tt) = sm := by rw [← hsm]; unfold wrap64; omega
      have hs2 : IntKind.i64.wrap (i.at_ + tt) = sm := by rw [IntWalk.i64_left]; exact hs1
      have hgt : decide (sm < now) = false := decide_eq_false (by omega)
      have hk0 : decide ((k : Int) < 0) = false := decide_eq_false (by omega)
      have hkm : (k : Int) < (mI : Int) := by omega
      have hkm0 : (0 : Int) ≤ (k : Int) := by omega
      have hj0 : (0 : Int) ≤ (j : Int) := by omega
      have HT : Hid (∀ z, Calls Tryz.prog 53 #[.agg #[.int .i64 c.pb, .int .i64 c.pc, .int .i64 c.pt]] (f z) fun e w' => e = .returned (.int .i64 tt) ∧ ∃ z', w' = f z') := fun z => by
        refine (Pc.total_any (f z) c.pb c.pc c.pt).mono ?_
        rintro e w' ⟨rfl, hb⟩
        exact ⟨by rw [htt], hf2 w' ((hf1 z).trans (hb.mono (hf1 z).size))⟩
      have HNo : Hid (∀ z, Calls Tryz.prog 24 #[ptr p] (f z) fun e w' => e = .returned (.int .i64 now) ∧ ∃ z', w' = f z') := fun z => by
        refine (hE z).pc.now_any.mono ?_
        rintro e w' ⟨rfl, rfl⟩
        exact ⟨rfl, z, rfl⟩
      have HZ0 : Hid (∃ z, wo.drew = f z) := hf2 _ (Below.refl _ _).drew
      have hj1 : wrap64 ((j : Int) + 1) = (j : Int) + 1 := wrapS (by have := HN.out.2.2.1; omega)
      have HF : Hid (∀ z, (f z).frozen? ⟨gI, k * 4 + 3, none⟩ = false ∧ ∀ w2, (f z).setCell ⟨gI, k * 4 + 3, none⟩ (.bool true) = w2 → ∃ I'', Hid ((A ++ [d]).length = j + 1 ∧ (A ++ [d]) ++ R = D ∧ I''.length = mI ∧ ∃ K', LE K' w2 B t p xb S c oa cap next now L vw q (.slice (some ⟨gI, 0, none⟩) mI cI) I'' n1 n2 (.slice (some ⟨gD, 0, none⟩) n cD) D R ∧ Mv (fun u => t ≤ u) w w2 K K')) := fun z => by
        have hz := hE z
        obtain ⟨r1, r2⟩ := hz.is.isSet hI' a1 (fun i => { i with over := true }) 3 (.bool true) (by omega) rfl
        have mz := Mv.of_below (hf1 z) K1 (fun _ => t + 31)
        refine ⟨hz.is.frozen _, fun w2 hw2 => ?_⟩
        rw [hw2] at r1 r2
        refine ⟨mark1 I' d.seq, by simp [hA], by simpa using hAR, by rw [mark_len]; exact hI', _, ⟨?_, hz.me.mv r2 (by omega), ?_, om', hz.ls.mv r2 (by omega), hz.bx.mv r2 (by omega)⟩, m1.trans ((mz.mono (fun _ e => e.elim)).trans (r2.mono (fun u e => by omega)))⟩
        · exact hz.pc.to' r2 (fun t' e => by omega)
        · have : mark1 I' d.seq = I'.modify k (fun i => { i with over := true }) := by
            unfold mark1
            rw [a2, show ((9 : Int) + k - 9).toNat = k by omega]
          rw [this]
          exact r1
      clear hA hAR hlen E m1 HR om' a1 a2 a3 a4 a5 a6 a7 hDj hf1 hf2 hE htt htt2 hnw hsm hI' hkI
      go_wp2_with fail
      refine HO.out.mono ?_
      rintro _ _ ⟨rfl, rfl⟩
      clear HO
      have instZ : Nonempty Z := ⟨HZ0.out.choose⟩
      go_wp2_with fail
      refine wp_region_class f (by kernel_rfl) (by kernel_rfl) HZ0.out ?_
      repeat (go_big_quiet_step (first | (go_at_call 53; exact HT.out _) | (go_at_call 24; exact HNo.out _)))
      refine wpQuiet_nil ?_
      rintro _ ⟨z, rfl⟩
      obtain ⟨fz, hz⟩ := HF.out z
      obtain ⟨w2, hw2⟩ : ∃ w2, (f z).setCell ⟨gI, k * 4 + 3, none⟩ (.bool true) = w2 := ⟨_, rfl⟩
      obtain ⟨I'', H2⟩ := hz w2 hw2
      clear hz HF HT HNo HZ0
      go_wp2
      go_roundw
      case rel => exact ⟨j + 1, A ++ [d], R, I'', by first | (simp; done) | (rw [hj1]; simp), hj, H2.out⟩
      case measure => exact meas (by first | rfl | exact hj1) hji
end
end Go.Proofs.YtfcbjcebkahehaaGreatDoor.Cl
namespace Go.Proofs.YtfcbjcebkahehaaGreatDoor.Cl
open Go.RowKit
theorem wrap_in {x : Int} (h : -9223372036854775808 ≤ x ∧ x ≤ 9223372036854775807) : wrap64 x = x := by unfold wrap64; omega
theorem novI_take {I : List Is} {j : Nat} {i : Is} (h : I[j]? = some i) : novI (I.take (j + 1)) = if i.over then novI (I.take j) else novI (I.take j) ++ [i.seq] := by
  unfold novI
  rw [List.take_add_one, h]
  cases ho : i.over <;> simp [List.filter_append, ho]
theorem novI_len (I : List Is) : (novI I).length ≤ I.length := by
  unfold novI
  rw [List.length_map]
  exact List.length_filter_le _ _
section
variable {K K' : Nat → Nat} {w w' : World} {B t p xb S : Nat} {c : Cf} {oa : Option Addr} {cap : Nat} {next now : Int} {L : List Wt} {D R : List Oc} {vw vd v : Value} {q : Mq} {vi : Value} {I : List Is} {n1 n2 : Int}
/-- behind some of what was issued -/
structure LS (K : Nat → Nat) (w : World) (B t p xb S : Nat) (c : Cf) (oa : Option Addr) (cap : Nat) (next now : Int) (L : List Wt) (vw vd : Value) (q : Mq) (vi : Value) (I : List Is) (n1 n2 : Int) (v : Value) (l : List Int) : Prop where
  lf : LF K w B t p xb c oa cap next now L [] vw vd q vi I n1 n2
  ls : RW 3 1 intC K w B (t + 41) v l
  bx : TB K w (t + 30) S (.cells #[.int .i64 c.pb, .int .i64 c.pc, .int .i64 c.pt] 23)
theorem LS.to {l : List Int} {T : Nat → Prop} (h : LS K w B t p xb S c oa cap next now L vw vd q vi I n1 n2 v l) (m : Mv T w w' K K') (ht : ∀ t', T t' → t + 41 < t') : LS K' w' B t p xb S c oa cap next now L vw vd q vi I n1 n2 v l :=
  ⟨h.lf.to m (fun t' e => by have := ht t' e; omega), h.ls.mv m (fun e => by have := ht _ e; omega), h.bx.mv m (fun e => by have := ht _ e; omega)⟩
theorem LF.wat (h : LF K w B t p xb c oa cap next now L D vw vd q vi I n1 n2) (n : Int) (om : OM c now next I L D n n2) : LF K (w.setCell ⟨xb, 2, none⟩ (.int .i64 n)) B t p xb c oa cap next now L D vw vd q vi I n n2 ∧ Mv (fun u => u = t + 20) w (w.setCell ⟨xb, 2, none⟩ (.int .i64 n)) K K := by
  have m := Mv.of_set w K ⟨xb, 2, none⟩ (.int .i64 n) h.me.k
  exact ⟨⟨h.pc.to m (fun t' e => by omega), ⟨set_at h.me.at_ 2 _, h.me.k⟩, h.is.mv m (by omega), om, h.hc, h.hI, h.hn⟩, m⟩
theorem LF.sai (h : LF K w B t p xb c oa cap next now L D vw vd q vi I n1 n2) (n : Int) (om : OM c now next I L D n1 n) : LF K (w.setCell ⟨xb, 3, none⟩ (.int .i64 n)) B t p xb c oa cap next now L D vw vd q vi I n1 n ∧ Mv (fun u => u = t + 20) w (w.setCell ⟨xb, 3, none⟩ (.int .i64 n)) K K := by
  have m := Mv.of_set w K ⟨xb, 3, none⟩ (.int .i64 n) h.me.k
  exact ⟨⟨h.pc.to m (fun t' e => by omega), ⟨set_at h.me.at_ 3 _, h.me.k⟩, h.is.mv m (by omega), om, h.hc, h.hI, h.hn⟩, m⟩
theorem OM.lenL (h : OM c now next I L [] n1 n2) : L.length ≤ I.length := by
  have := novI_len I
  rw [h.nov, List.length_map] at this
  exact this
set_option maxRecDepth 8000 in
set_option maxHeartbeats 8000000 in
theorem LF.stands_any (h : LF K w B t p xb c oa cap next now L [] vw vd q vi I n1 n2) :
    Calls Tryz.prog 17 #[ptr xb, .agg #[.int .i64 c.pb, .int .i64 c.pc, .int .i64 c.pt], .int .i64 c.win] w fun e w' => e = .returned (.bool true) ∧ Hid (∃ K', LF K' w' B t p xb c oa cap next now L [] vw vd q vi I (waterL next L) n2 ∧ Mv (fun u => t ≤ u) w w' K K') := by
  have hc := h.hc
  have hIl := h.hI
  have hnw := h.hn
  have hom := h.om
  obtain ⟨S, hS⟩ : ∃ y, w.heap.size = y := ⟨_, rfl⟩
  obtain ⟨w0, hw0⟩ : ∃ y, w.alloc (.cells #[.int .i64 c.pb, .int .i64 c.pc, .int .i64 c.pt] 23) = y := ⟨_, rfl⟩
  have B0 : Below w.heap.size w w0 := by rw [← hw0]; exact (Below.refl _ _).alloc (Nat.le_refl _) _
  have k0 : w0.heap[S]? = some (.cells #[.int .i64 c.pb, .int .i64 c.pc, .int .i64 c.pt] 23) := by rw [← hw0, ← hS]; exact (MapKept.heap_alloc w _).1
  have m0 := Mv.of_below B0 K (fun _ => t + 30)
  have h0 := h.to m0 (fun _ e => e.elim)
  have hKS : ext w K (fun _ => t + 30) S = t + 30 := ext_new (Nat.le_of_eq hS)
  have tS : TB (ext w K (fun _ => t + 30)) w0 (t + 30) S (.cells #[.int .i64 c.pb, .int .i64 c.pc, .int .i64 c.pt] 23) := ⟨k0, hKS⟩
  generalize ext w K (fun _ => t + 30) = K0 at m0 h0 hKS tS
  have HS : Hid (∃ K', LS K' w0 B t p xb S c oa cap next now L vw vd q vi I n1 n2 (.slice none 0 0) (novI (I.take 0)) ∧ Mv (fun u => t ≤ u) w w0 K K') := ⟨K0, ⟨h0, RW.nil _ _ _ _ _ _ _, tS⟩, m0.mono (fun _ e => e.elim)⟩
  obtain ⟨oI, cI, evi, _, hgI⟩ := h.is.form
  obtain ⟨mI, hmI⟩ : ∃ m, I.length = m := ⟨_, rfl⟩
  rw [hmI] at evi
  subst evi
  obtain ⟨wt, hwt⟩ : ∃ wt, waterL next L = wt := ⟨_, rfl⟩
  rw [hwt]
  have HWT := hid hwt
  have HG := hid hgI
  have HN := hid (And.intro hmI (And.intro (show mI ≤ 50000000 by omega) (And.intro hnw (And.intro hc hom))))
  clear h h0 hgI hIl hnw hc hom m0 tS k0 B0 hKS hmI hwt
  go_enter Tryz.func17, Tryz.ntmps17
  go_wp2_with fail
  go_loopw [8, 7] (fun u8 u7 wr => ∃ (j : Nat) (o : Option Addr) (ln cp : Nat), u8 = .int .i64 (j : Int) ∧ u7 = .slice o ln cp ∧ j ≤ mI ∧ Hid ((novI (I.take j)).length = ln ∧ ∃ K', LS K' wr B t p xb S c oa cap next now L vw vd q (.slice oI mI cI) I n1 n2 (.slice o ln cp) (novI (I.take j)) ∧ Mv (fun u => t ≤ u) w wr K K')) (fun u8 _ _ => mI - (intOf u8).toNat)
  case atStart => exact ⟨0, none, 0, 0, rfl, rfl, by omega, rfl, HS.out⟩
  case round =>
    obtain ⟨j, o, ln, cp, rfl, rfl, hjm, HR⟩ := hrel
    clear HS
    obtain ⟨wo, hwo⟩ : ∃ yy, yy = wr := ⟨_, rfl⟩
    subst hwo
    obtain ⟨hln, K1, E, m1⟩ := HR.out
    have x1 : wo.cell? ⟨xb, 1, none⟩ = some (.slice oI mI cI) := E.lf.ce0.2.1
    by_cases hj : j < mI
    · have hji : (j : Int) < (mI : Int) := by omega
      obtain ⟨gI, rfl⟩ := HG.out (by rw [HN.out.1]; omega)
      obtain ⟨i, hi⟩ : ∃ i, I[j]? = some i := ⟨_, List.getElem?_eq_getElem (by have := HN.out.1; omega)⟩
      obtain ⟨d0, d1, d2, d3⟩ := E.lf.is.is4 HN.out.1 hi
      have hj1 : wrap64 ((j : Int) + 1) = (j : Int) + 1 := wrapS (by have := HN.out.2.1; omega)
      have htk := novI_take hi
      cases ho : i.over
      · rw [ho] at d3 htk
        rw [if_neg (by decide)] at htk
        have hsoon := HN.out.2.2.2.2.soon hi ho
        obtain ⟨N, hN⟩ : ∃ y, wo.heap.size = y := ⟨_, rfl⟩
        obtain ⟨wn, hwn⟩ : ∃ y, wo.alloc (.cells #[.int .i64 i.seq] 3) = y := ⟨_, rfl⟩
        have hlj : ln ≤ 50000000 := by
          have := novI_len (I.take j)
          rw [List.length_take] at this
          have := HN.out.2.1
          omega
        obtain ⟨o2, cp2, w2, K2, hr, R2, m2⟩ := app24n E.ls E.lf.pc.hB i.seq (by rw [hln]; omega)
        rw [hln, hN, hwn] at hr
        rw [hln] at R2
        have HRun := hid hr
        have E2 : LS K2 w2 B t p xb S c oa cap next now L vw vd q (.slice (some ⟨gI, 0, none⟩) mI cI) I n1 n2 (.slice o2 (ln + 1) cp2) (novI (I.take (j + 1))) := by
          rw [htk]
          exact ⟨E.lf.to m2 (fun t' e => by omega), R2, E.bx.mv m2 (by omega)⟩
        have hln2 : (novI (I.take (j + 1))).length = ln + 1 := by rw [htk]; simp [hln]
        obtain ⟨Z, f, hf1, hf2⟩ : ∃ (Z : Type) (f : Z → World), (∀ z, Below w2.heap.size w2 (f z)) ∧ ∀ w', Below w2.heap.size w2 w' → ∃ z, w' = f z := ⟨{ w' // Below w2.heap.size w2 w' }, Subtype.val, fun z => z.2, fun w' h => ⟨⟨w', h⟩, rfl⟩⟩
        have hE : ∀ z, LS (ext w2 K2 (fun _ => t + 42)) (f z) B t p xb S c oa cap next now L vw vd q (.slice (some ⟨gI, 0, none⟩) mI cI) I n1 n2 (.slice o2 (ln + 1) cp2) (novI (I.take (j + 1))) := fun z => E2.to (Mv.of_below (hf1 z) K2 _) (fun _ e => e.elim)
        have z0 : ∀ z, (f z).cell? ⟨xb, 0, none⟩ = some (ptr p) := fun z => cell_at (hE z).lf.me.at_ rfl
        have z1 : ∀ z, (f z).cell? ⟨xb, 1, none⟩ = some (.slice (some ⟨gI, 0, none⟩) mI cI) := fun z => cell_at (hE z).lf.me.at_ rfl
        have z2 : ∀ z, (f z).cell? ⟨gI, j * 4 + 1, none⟩ = some (.int .i64 i.at_) := fun z => ((hE z).lf.is.is4 HN.out.1 hi).2.1
        have z5 : ∀ z, (f z).cell? ⟨S, 0, none⟩ = some (.int .i64 c.pb) := fun z => cell_at (hE z).bx.at_ rfl
        have z6 : ∀ z, (f z).cell? ⟨S, 1, none⟩ = some (.int .i64 c.pc) := fun z => cell_at (hE z).bx.at_ rfl
        have z7 : ∀ z, (f z).cell? ⟨S, 2, none⟩ = some (.int .i64 c.pt) := fun z => cell_at (hE z).bx.at_ rfl
        obtain ⟨tt, htt⟩ : ∃ tt, Pc.totalP c.pb c.pc c.pt = tt := ⟨_, rfl⟩
        rw [htt] at hsoon
        have htt2 : 0 ≤ tt ∧ tt ≤ 120 := by rw [← htt]; exact HN.out.2.2.2.1.total
        have hnw := HN.out.2.2.1
        obtain ⟨sm, hsm⟩ : ∃ sm, i.at_ + tt = sm := ⟨_, rfl⟩
        have hs1 : wrap64 (i.at_ + tt) = sm := by rw [← hsm]; unfold wrap64; omega
        have hs2 : IntKind.i64.wrap (i.at_ + tt) = sm := by rw [IntWalk.i64_left]; exact hs1
        have hgt : decide (sm ≤ now) = false := decide_eq_false (by omega)
        have hj0 : (0 : Int) ≤ (j : Int) := by omega
        have HT : Hid (∀ z, Calls Tryz.prog 53 #[.agg #[.int .i64 c.pb, .int .i64 c.pc, .int .i64 c.pt]] (f z) fun e w' => e = .returned (.int .i64 tt) ∧ ∃ z', w' = f z') := fun z => by
          refine (Pc.total_any (f z) c.pb c.pc c.pt).mono ?_
          rintro e w' ⟨rfl, hb⟩
          exact ⟨by rw [htt], hf2 w' ((hf1 z).trans (hb.mono (hf1 z).size))⟩
        have HNo : Hid (∀ z, Calls Tryz.prog 24 #[ptr p] (f z) fun e w' => e = .returned (.int .i64 now) ∧ ∃ z', w' = f z') := fun z => by
          refine (hE z).lf.pc.now_any.mono ?_
          rintro e w' ⟨rfl, rfl⟩
          exact ⟨rfl, z, rfl⟩
        have HZ0 : Hid (∃ z, w2.drew = f z) := hf2 _ (Below.refl _ _).drew
        have HF : Hid (∀ z, (novI (I.take (j + 1))).length = ln + 1 ∧ ∃ K', LS K' (f z) B t p xb S c oa cap next now L vw vd q (.slice (some ⟨gI, 0, none⟩) mI cI) I n1 n2 (.slice o2 (ln + 1) cp2) (novI (I.take (j + 1))) ∧ Mv (fun u => t ≤ u) w (f z) K K') := fun z =>
          ⟨hln2, _, hE z, m1.trans ((m2.mono (fun u e => by omega)).trans ((Mv.of_below (hf1 z) K2 _).mono (fun _ e => e.elim)))⟩
        have hb := fun n w => bls24n n w
        have HHJ := hid hj
        clear E E2 hE m1 m2 hi htk hsoon hr R2 hln hln2 hlj hf1 hf2 htt htt2 hnw hsm HR hj hjm ho d1 d2
        go_wp2_with (at_builtin; refine Hid.out ?_)
        refine (show Hid _ from ?_)
        refine wpList_app rfl _ _ 24 rfl _ _ _ _ rfl rfl (HRun.out _) ?_
        have instZ : Nonempty Z := ⟨HZ0.out.choose⟩
        clear HRun d0 d3 x1
        go_wp2_with fail
        refine wp_region_class f (by kernel_rfl) (by kernel_rfl) HZ0.out ?_
        repeat (go_big_quiet_step (first | (go_at_call 53; exact HT.out _) | (go_at_call 24; exact HNo.out _)))
        refine wpQuiet_nil ?_
        rintro _ ⟨z, rfl⟩
        have H2 := hid (HF.out z)
        clear HF HT HNo HZ0
        go_wp2
        go_roundw
        case rel => exact ⟨j + 1, o2, ln + 1, cp2, by first | (simp; done) | (rw [hj1]; simp), by first | rfl | simp, HHJ.out, H2.out⟩
        case measure => exact meas (by first | rfl | exact hj1) hji
      · rw [ho] at d3 htk
        rw [if_pos rfl] at htk
        have HF : Hid ((novI (I.take (j + 1))).length = ln ∧ ∃ K', LS K' wo B t p xb S c oa cap next now L vw vd q (.slice (some ⟨gI, 0, none⟩) mI cI) I n1 n2 (.slice o ln cp) (novI (I.take (j + 1))) ∧ Mv (fun u => t ≤ u) w wo K K') := by
          rw [htk]
          exact ⟨hln, K1, E, m1⟩
        clear E m1 hi htk hln HR d0 d1 d2
        go_wp2
        go_roundw
        case rel => exact ⟨j + 1, o, ln, cp, by first | (simp; done) | (rw [hj1]; simp), by first | rfl | simp, hj, HF.out⟩
        case measure => exact meas (by first | rfl | exact hj1) hji
    · obtain rfl : j = mI := by omega
      have hall : I.take j = I := List.take_of_length_le (by rw [HN.out.1]; exact Nat.le_refl _)
      have hnov := HN.out.2.2.2.2.nov
      rw [hall, hnov] at E hln
      have HWa := hid E.lf.pc.water_any
      have hwat := HN.out.2.2.2.2.water HN.out.2.2.2.1.w1
      have hnx := HN.out.2.2.2.2.nxt
      rw [HN.out.1] at hnx
      have hmle := HN.out.2.1
      have hwt := HWT.out
      rw [hwt] at hwat HWa
      have b1 : -9223372036854775808 ≤ 9 + (j : Int) ∧ 9 + (j : Int) ≤ 9223372036854775807 := by omega
      obtain ⟨df, hdf2⟩ : ∃ df, next - wt = df := ⟨_, rfl⟩
      rw [hdf2] at hwat
      have b2 : -9223372036854775808 ≤ df ∧ df ≤ 9223372036854775807 := by omega
      have hw1 : decide (wt < n1) = false := decide_eq_false (by omega)
      have hw2 : decide (c.win < df) = false := decide_eq_false (by omega)
      have hLl : L.length = ln := by rw [← hln, List.length_map]
      have hLs := HN.out.2.2.2.2.lenL
      rw [HN.out.1] at hLs
      have hLB : L.length ≤ 100000000 := by omega
      have hlnB : ln ≤ 100000000 := by omega
      have HWg := E.lf.pc.waiting_any (t + 60) (by omega) hLB
      have HI : Hid (∀ e w2, (∃ v, e = Ending.returned v ∧ Hid (∃ K', RW 3 1 intC K' w2 B (t + 60) v (L.map Wt.seq) ∧ Mv (fun u => u = t + 60) wo w2 K1 K')) → ∃ v, e = .returned v ∧ Calls Tryz.prog 38 #[.slice o ln cp, v] w2 fun e w3 => e = .returned (.bool true) ∧ w3.cell? ⟨xb, 1, none⟩ = some (.slice oI j cI) ∧ w3.cell? ⟨xb, 2, none⟩ = some (.int .i64 n1) ∧ w3.frozen? ⟨xb, 2, none⟩ = false ∧ ∀ w4, w3.setCell ⟨xb, 2, none⟩ (.int .i64 wt) = w4 → Hid (∃ K', LF K' w4 B t p xb c oa cap next now L [] vw vd q (.slice oI j cI) I wt n2 ∧ Mv (fun u => t ≤ u) w w4 K K')) := by
        rintro e w2 ⟨v, rfl, hh⟩
        obtain ⟨K2, R2, m2⟩ := hh.out
        refine ⟨v, rfl, ?_⟩
        have E2 := E.to m2 (fun t' e => by omega)
        refine (ints_any E2.ls R2 (by rw [List.length_map]; exact hLB)).mono ?_
        rintro e w3 ⟨rfl, k, rfl⟩
        have m3 := mv_drewN w2 K2 k
        have l3 := E2.lf.to m3 (fun _ e => e.elim)
        refine ⟨by simp, l3.ce0.2.1, l3.ce0.2.2.1, frozen_at l3.me.at_ 2, fun w4 hw4 => ?_⟩
        have om := l3.om.raise
        rw [hwt] at om
        obtain ⟨l4, m4⟩ := l3.wat wt om
        rw [hw4] at l4 m4
        exact ⟨K2, l4, m1.trans ((m2.mono (fun u e => by omega)).trans ((m3.mono (fun _ e => e.elim)).trans (m4.mono (fun u e => by omega))))⟩
      have HWg := hid HWg
      have HWR : Hid (wrap64 (9 + (j : Int)) = next ∧ wrap64 (next - wt) = df) := ⟨by rw [wrap_in b1, hnx], by rw [hdf2]; exact wrap_in b2⟩
      have x0 : wo.cell? ⟨xb, 0, none⟩ = some (ptr p) := E.lf.ce0.1
      have hgl := E.ls.form
      cases L with
      | nil =>
        simp at hLl
        subst hLl
        have hwn : wt = next := hwt.symm
        subst hwn
        have hz : decide (c.win < 0) = false := decide_eq_false (by have := HN.out.2.2.2.1.w1; omega)
        have hz0 : wrap64 0 = 0 := by unfold wrap64; omega
        have hsm := HWR.out.1
        have hdf := HWR.out.2
        clear E hgl hln hLs hwat hnx hmle hwt hdf2 HR hj hall hnov m1 b1 b2 hLB hlnB HWR
        go_wp2_with fail
        refine HWa.out.mono ?_
        rintro _ _ ⟨rfl, rfl⟩
        clear HWa
        go_wp2_with fail
        refine HWg.out.mono fun e w2 h2 => ?_
        obtain ⟨v, rfl, H38⟩ := HI.out e w2 h2
        have H38 := hid H38
        clear HWg HI x1 x0
        go_wp2_with fail
        refine H38.out.mono ?_
        rintro _ w3 ⟨rfl, y1, y2, y3, hF⟩
        obtain ⟨w4, hw4⟩ : ∃ w4, w3.setCell ⟨xb, 2, none⟩ (.int .i64 wt) = w4 := ⟨_, rfl⟩
        have HF := hF w4 hw4
        clear H38 hF
        go_wp2
        go_ret
        exact ⟨rfl, HF⟩
      | cons x L =>
        obtain ⟨o', cp', e', _, hg'⟩ := hgl
        simp only [List.length_map] at e' hg'
        rw [hLl] at e' hg'
        cases e'
        have hl0 : 0 < ln := by rw [← hLl]; simp
        have hl0i : (0 : Int) < (ln : Int) := by omega
        obtain ⟨gl, rfl⟩ := hg' hl0
        have y0 : wo.cell? ⟨gl, 0, none⟩ = some (.int .i64 wt) := by
          have := E.ls.cell intL (by rw [List.length_map]; exact hLl) (j := 0) (x := x.seq) rfl 0 (by omega)
          rw [← hwt]
          simpa [intC, waterL] using this
        have hsm := HWR.out.1
        have hdf := HWR.out.2
        clear E hln hLs hwat hnx hmle hwt hdf2 HR hj hall hnov hg' m1 b1 b2 hLB hlnB HWR
        go_wp2_with fail
        refine HWa.out.mono ?_
        rintro _ _ ⟨rfl, rfl⟩
        clear HWa
        go_wp2_with fail
        refine HWg.out.mono fun e w2 h2 => ?_
        obtain ⟨v, rfl, H38⟩ := HI.out e w2 h2
        have H38 := hid H38
        clear HWg HI x1 x0 y0
        go_wp2_with fail
        refine H38.out.mono ?_
        rintro _ w3 ⟨rfl, y1, y2, y3, hF⟩
        obtain ⟨w4, hw4⟩ : ∃ w4, w3.setCell ⟨xb, 2, none⟩ (.int .i64 wt) = w4 := ⟨_, rfl⟩
        have HF := hF w4 hw4
        clear H38 hF
        go_wp2
        go_ret
        exact ⟨rfl, HF⟩
end
end Go.Proofs.YtfcbjcebkahehaaGreatDoor.Cl
