/- ClientOnce, plainly: what Due gives, as it is read again. -/
import Derived.Test.YtfcbjcebkahehaaGreatDoorZbi
import Derived.Test.YtfcbjcebkahehaaGreatDoorZbj
import Derived.Test.YtfcbjcebkahehaaGreatDoorZbd
import Derived.Test.YtfcbjcebkahehaaGreatDoorZbl
namespace Go.Proofs.YtfcbjcebkahehaaGreatDoor.Cl
open Go.RowKit
theorem readM_body {m : MarkP} (h : m.may) : readM m.body = some m := (readM_iff _ _).2 ⟨h, rfl⟩
theorem body_len {m : MarkP} (h : m.sys = ⟨0, [], 0, 0, []⟩) : m.body.length ≤ 400 := by
  unfold MarkP.body
  rw [h]
  simp only [List.length_append, nbL_len]
  decide
/-- a request that is read again -/
theorem req_read {c : Cf} (hc : OnC c) {now : Int} {i : Is} {x : Wt} (h : RI c now i x) (water : Int) (h1 : 1 ≤ water) (h2 : water ≤ x.seq) (h3 : x.seq ≤ 4294967295) :
    ∃ cb : List UInt8, parseC (x.data c water) = (⟨x.seq, 2, 7, 1, 2, ⟨1296126539, cb⟩, ⟨0, []⟩, [97, 98, 99, 100]⟩, 0) ∧ cb.length ≤ 400 ∧ jP x.seq 1296126539 cb 0 [] = (x.mark c water, true, 0) ∧ (x.data c water).length ≤ 281474976710656 := by
  have hm : (x.mark c water).may := by
    unfold Wt.mark MarkP.may
    dsimp only
    rw [hc.inst, hc.sys]
    exact ⟨by omega, by omega, by omega, sys0_may⟩
  have hcr : credM (x.mark c water) = ⟨1296126539, (x.mark c water).body⟩ := by unfold credM; rw [if_pos hm]
  have hbl : (x.mark c water).body.length ≤ 400 := body_len (by exact hc.sys)
  have hreq : x.reqC c water = ⟨x.seq, 2, 7, 1, 2, ⟨1296126539, (x.mark c water).body⟩, ⟨0, []⟩, [97, 98, 99, 100]⟩ := by
    unfold Wt.reqC
    rw [hcr, h.prog, h.vers, h.proc, h.args]
  have hmay : (x.reqC c water).may := by
    rw [hreq]
    unfold CallP.may AuthP.may isW plainB
    dsimp only
    exact ⟨by omega, rfl, by decide, by decide, by decide, ⟨by decide, hbl⟩, ⟨by decide, by decide⟩, by decide⟩
  have hdata : x.data c water = (x.reqC c water).lay := by
    unfold Wt.data pcP prM
    rw [if_pos hmay]
  refine ⟨(x.mark c water).body, ?_, hbl, ?_, ?_⟩
  · rw [hdata, parseC_there _ hmay, hreq]
  · have hpm : pmP 1296126539 (x.mark c water).body = (x.mark c water, 0) := by
      unfold pmP
      rw [if_neg (by decide), readM_body hm]
    have hok : markOk (pmP 1296126539 (x.mark c water).body) x.seq = true := by
      rw [hpm]
      unfold markOk
      dsimp only
      have e1 : (x.mark c water).seq = x.seq := rfl
      have e2 : (x.mark c water).water = water := rfl
      rw [e1, e2, decide_eq_true h2]
      simp
    have hj : jcP 1296126539 (x.mark c water).body x.seq = (x.mark c water, true, 0) := by
      unfold jcP
      rw [if_neg (by decide), if_neg (by decide), if_pos rfl, hok, hpm]
      rfl
    unfold jP
    rw [hj]
    rw [if_pos rfl, if_pos (by simp [nob])]
  · rw [hdata, hreq]
    unfold CallP.lay AuthP.lay
    dsimp only
    simp only [List.length_append, nbL_len]
    have hp : (padB (x.mark c water).body.length).length ≤ 3 := by
      rw [padB_len]
      unfold pads
      omega
    have hp0 : (padB 0).length ≤ 3 := by decide
    simp only [List.length_nil, List.length_cons]
    omega
section
variable {c : Cf} {now next : Int} {I : List Is} {L : List Wt} {D : List Oc} {n1 n2 : Int}
def bumps (I : List Is) (xs : List Wt) : List Is := xs.foldl (fun I x => bump1 I x.seq) I
theorem bumps_len : ∀ (xs : List Wt) (I : List Is), (bumps I xs).length = I.length
  | [], _ => rfl
  | x :: xs, I => (bumps_len xs (bump1 I x.seq)).trans (bump_len I _)
theorem bumps_snoc (I : List Is) (xs : List Wt) (x : Wt) : bumps I (xs ++ [x]) = bump1 (bumps I xs) x.seq := by simp [bumps]
theorem bumps_ne : ∀ (xs : List Wt) (I : List Is) (k : Nat), (∀ x ∈ xs, 9 ≤ x.seq ∧ x.seq ≠ 9 + k) → (bumps I xs)[k]? = I[k]?
  | [], _, _, _ => rfl
  | x :: xs, I, k, h => by
    show (bumps (bump1 I x.seq) xs)[k]? = _
    rw [bumps_ne xs _ k (fun y hy => h y (List.mem_cons_of_mem _ hy))]
    unfold bump1
    have := h x (by simp)
    have hne : (x.seq - 9).toNat ≠ k := by omega
    rw [List.getElem?_modify]
    cases I[k]? <;> simp [hne]
theorem bumps_at : ∀ (xs : List Wt) (I : List Is) (k : Nat) (i : Is), xs.Pairwise (fun a b => a.seq < b.seq ∧ a.fin ≤ b.fin) → (∀ x ∈ xs, 9 ≤ x.seq) → I[k]? = some i → (bumps I xs)[k]? = some (if ∃ x ∈ xs, x.seq = 9 + k then { i with sent := i.sent + 1 } else i)
  | [], _, _, _, _, _, hi => by simp [bumps, hi]
  | x :: xs, I, k, i, hp, h, hi => by
    show (bumps (bump1 I x.seq) xs)[k]? = _
    have hp' := List.pairwise_cons.1 hp
    have hx := h x (by simp)
    by_cases hk : x.seq = 9 + k
    · have h1 : (bump1 I x.seq)[k]? = some { i with sent := i.sent + 1 } := by
        unfold bump1
        rw [hk, show ((9 : Int) + k - 9).toNat = k by omega]
        exact mod_is hi
      rw [bumps_ne xs _ k (fun y hy => ⟨h y (List.mem_cons_of_mem _ hy), by have := (hp'.1 y hy).1; omega⟩), h1, if_pos ⟨x, by simp, hk⟩]
    · have h1 : (bump1 I x.seq)[k]? = some i := by
        unfold bump1
        exact mod_ne hi (by omega)
      rw [bumps_at xs _ k i hp'.2 (fun y hy => h y (List.mem_cons_of_mem _ hy)) h1]
      congr 1
      by_cases he : ∃ y ∈ xs, y.seq = 9 + k
      · obtain ⟨y, hy, e⟩ := he
        rw [if_pos ⟨y, hy, e⟩, if_pos ⟨y, List.mem_cons_of_mem _ hy, e⟩]
      · rw [if_neg he, if_neg]
        rintro ⟨y, hy, e⟩
        rcases List.mem_cons.1 hy with rfl | hy
        · exact hk e
        · exact he ⟨y, hy, e⟩
theorem dueL_mem {x' : Wt} (h : x' ∈ dueL c now L) : ∃ x ∈ L, (dueW c now x = true ∧ x' = givW c now x) ∨ (dueW c now x = false ∧ x' = x) := by
  unfold dueL at h
  obtain ⟨x, hx, rfl⟩ := List.mem_map.1 h
  refine ⟨x, hx, ?_⟩
  cases hd : dueW c now x
  · exact .inr ⟨rfl, rfl⟩
  · exact .inl ⟨rfl, rfl⟩
theorem dueL_same {x : Wt} (h : x ∈ L) : ∃ x' ∈ dueL c now L, x'.seq = x.seq := by
  refine ⟨_, List.mem_map_of_mem h, ?_⟩
  show (if dueW c now x then givW c now x else x).seq = x.seq
  split <;> rfl
theorem waterL_due : waterL next (dueL c now L) = waterL next L := by
  cases L with
  | nil => rfl
  | cons x L =>
    show (if dueW c now x then givW c now x else x).seq = x.seq
    split <;> rfl
/-- Due, as the book has it -/
theorem OM.due (h : OM c now next I L [] n1 n2) (hc : OnC c) : OM c now next (bumps I (L.filter (dueW c now))) (dueL c now L) [] n1 n2 := by
  have hsub : (L.filter (dueW c now)).Sublist L := List.filter_sublist
  have hp := h.srt.sublist hsub
  have h9 : ∀ x ∈ L.filter (dueW c now), 9 ≤ x.seq := fun x hx => (h.seq_lt (hsub.subset hx)).1
  have hat := fun k i (hi : I[k]? = some i) => bumps_at (L.filter (dueW c now)) I k i hp h9 hi
  have hinv : ∀ (k : Nat) (i : Is), (bumps I (L.filter (dueW c now)))[k]? = some i → ∃ i0, I[k]? = some i0 ∧ i.seq = i0.seq ∧ i.over = i0.over := fun k i hi => by
    have hl := (List.getElem?_eq_some_iff.1 hi).1
    rw [bumps_len] at hl
    have := hat k _ (List.getElem?_eq_getElem hl)
    rw [hi] at this
    refine ⟨_, List.getElem?_eq_getElem hl, ?_⟩
    rw [Option.some.inj this]
    split <;> exact ⟨rfl, rfl⟩
  refine ⟨fun k i hi => ?_, by rw [bumps_len]; exact h.nxt, h.now0, fun x' hx' => ?_, fun d hd => (by cases hd), fun k i hi ho => ?_, ?_, ⟨List.nodup_nil, fun d hd => (by cases hd)⟩, fun x' hx' => ?_, fun x' hx' => ?_, h.lon⟩
  · obtain ⟨i0, a1, a2, _⟩ := hinv k i hi
    rw [a2]; exact h.num k i0 a1
  · obtain ⟨x, hx, hd⟩ := dueL_mem hx'
    obtain ⟨k, i, a1, a2, a3, a4⟩ := h.wt x hx
    have hk := h.num k i a1
    have h1 := hat k i a1
    rcases hd with ⟨hd, he⟩ | ⟨hd, he⟩ <;> rw [he]
    · rw [if_pos ⟨x, List.mem_filter.2 ⟨hx, hd⟩, a3.seq.trans hk⟩] at h1
      exact ⟨k, _, h1, a2, a3.give hc hd, a4⟩
    · rw [if_neg] at h1
      · exact ⟨k, i, h1, a2, a3, a4⟩
      · rintro ⟨y, hy, e⟩
        obtain ⟨hy1, hy2⟩ := List.mem_filter.1 hy
        have : y = x := by
          obtain ⟨ky, hky⟩ := List.mem_iff_getElem?.1 hy1
          obtain ⟨kx, hkx⟩ := List.mem_iff_getElem?.1 hx
          have hpw := List.pairwise_iff_getElem.1 h.srt
          have ly := (List.getElem?_eq_some_iff.1 hky).1
          have lx := (List.getElem?_eq_some_iff.1 hkx).1
          have gy := (List.getElem?_eq_some_iff.1 hky).2
          have gx := (List.getElem?_eq_some_iff.1 hkx).2
          have es : y.seq = x.seq := by rw [e, a3.seq, hk]
          rcases Nat.lt_trichotomy ky kx with hlt | heq | hgt
          · have := (hpw ky kx ly lx hlt).1
            rw [gy, gx] at this; omega
          · subst heq; rw [← gy, ← gx]
          · have := (hpw kx ky lx ly hgt).1
            rw [gy, gx] at this; omega
        rw [this, hd] at hy2
        cases hy2
  · obtain ⟨i0, a1, a2, a3⟩ := hinv k i hi
    rcases h.all k i0 a1 (a3.symm.trans ho) with ⟨x, hx, e⟩ | ⟨d, hd, _⟩
    · obtain ⟨x', hx', e'⟩ := dueL_same (c := c) (now := now) hx
      exact .inl ⟨x', hx', by rw [e', e, a2]⟩
    · cases hd
  · unfold dueL
    refine List.pairwise_map.2 (h.srt.imp fun {a b} e => ?_)
    have e1 : ∀ x : Wt, (if dueW c now x then givW c now x else x).seq = x.seq := fun x => by split <;> rfl
    have e2 : ∀ x : Wt, (if dueW c now x then givW c now x else x).fin = x.fin := fun x => by split <;> rfl
    rw [e1, e1, e2, e2]
    exact e
  · obtain ⟨x, hx, ⟨_, e⟩ | ⟨_, e⟩⟩ := dueL_mem hx' <;> rw [e]
    · exact h.win x hx
    · exact h.win x hx
  · obtain ⟨x, hx, ⟨_, e⟩ | ⟨_, e⟩⟩ := dueL_mem hx' <;> rw [e]
    · exact h.lo x hx
    · exact h.lo x hx
/-- and again, at the same time: nothing -/
theorem OM.idle (h : OM c now next I L [] n1 n2) (hc : OnC c) : ∀ x ∈ dueL c now L, dueW c now x = false := by
  intro x' hx'
  obtain ⟨x, hx, ⟨hd, e⟩ | ⟨hd, e⟩⟩ := dueL_mem hx' <;> rw [e]
  · obtain ⟨k, i, a1, a2, a3, a4⟩ := h.wt x hx
    have := a3.s0
    have := a3.s1
    exact givW_idle hc now (by omega)
  · exact hd
end
end Go.Proofs.YtfcbjcebkahehaaGreatDoor.Cl
