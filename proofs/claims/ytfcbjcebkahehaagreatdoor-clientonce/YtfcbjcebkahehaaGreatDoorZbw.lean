/- ClientOnce, plainly: what Due gives, as it is read again. ClientOnce: due. ClientOnce: Call, Due, Tick, Hear beside the book. ClientOnce: acts, ahead of its kinds. ClientOnce: acts, Due. ClientOnce: acts, a tick. ClientOnce: acts, a reply. ClientOnce: acts, replies from elsewhere. -/
import Derived.Test.YtfcbjcebkahehaaGreatDoorZbu
import Derived.Test.YtfcbjcebkahehaaGreatDoorZbv
import Derived.Test.YtfcbjcebkahehaaGreatDoorZbs
namespace Go.Proofs.YtfcbjcebkahehaaGreatDoor.Cl
open Go.RowKit
theorem readM_body {m : MarkP} (h : m.may) : readM m.body = some m := (readM_iff _ _).2 ⟨h, rfl⟩
theorem body_len {m : MarkP} (h : m.sys = ⟨0, [], 0, 0, []⟩) : m.body.length ≤ 400 := by
  unfold MarkP.body
  rw [h]
  simp only [List.length_append, nbL_len]
  decide
/-- a request that is read again -/
theorem req_read {c : Cf} (hc : OnC c) {now : Int} {i : Is} {x : Wt} (h : RI c now i x) (water : Int) (h1 : 1 ≤ water) (h2 : water ≤ x.seq) (h3 : x.seq ≤ 4294967295) :
    ∃ cb : List UInt8, parseC (x.data c water) = (⟨x.seq, 2, 7, 1, 2, ⟨1296126539, cb⟩, ⟨0, []⟩, [97, 98, 99, 100]⟩, 0) ∧ cb.length ≤ 400 ∧ jP x.seq 1296126539 cb 0 [] = (x.mark c water, true, 0) ∧ (x.data c water).length ≤ 281474976710656 := by
  have hm : (x.mark c water).may := by
    unfold Wt.mark MarkP.may
    dsimp only
    rw [hc.inst, hc.sys]
    exact ⟨by omega, by omega, by omega, sys0_may⟩
  have hcr : credM (x.mark c water) = ⟨1296126539, (x.mark c water).body⟩ := by unfold credM; rw [if_pos hm]
  have hbl : (x.mark c water).body.length ≤ 400 := body_len (by exact hc.sys)
  have hreq : x.reqC c water = ⟨x.seq, 2, 7, 1, 2, ⟨1296126539, (x.mark c water).body⟩, ⟨0, []⟩, [97, 98, 99, 100]⟩ := by
    unfold Wt.reqC
    rw [hcr, h.prog, h.vers, h.proc, h.args]
  have hmay : (x.reqC c water).may := by
    rw [hreq]
    unfold CallP.may AuthP.may isW plainB
    dsimp only
    exact ⟨by omega, rfl, by decide, by decide, by decide, ⟨by decide, hbl⟩, ⟨by decide, by decide⟩, by decide⟩
  have hdata : x.data c water = (x.reqC c water).lay := by
    unfold Wt.data pcP prM
    rw [if_pos hmay]
  refine ⟨(x.mark c water).body, ?_, hbl, ?_, ?_⟩
  · rw [hdata, parseC_there _ hmay, hreq]
  · have hpm : pmP 1296126539 (x.mark c water).body = (x.mark c water, 0) := by
      unfold pmP
      rw [if_neg (by decide), readM_body hm]
    have hok : markOk (pmP 1296126539 (x.mark c water).body) x.seq = true := by
      rw [hpm]
      unfold markOk
      dsimp only
      have e1 : (x.mark c water).seq = x.seq := rfl
      have e2 : (x.mark c water).water = water := rfl
      rw [e1, e2, decide_eq_true h2]
      simp
    have hj : jcP 1296126539 (x.mark c water).body x.seq = (x.mark c water, true, 0) := by
      unfold jcP
      rw [if_neg (by decide), if_neg (by decide), if_pos rfl, hok, hpm]
      rfl
    unfold jP
    rw [hj]
    rw [if_pos rfl, if_pos (by simp [nob])]
  · rw [hdata, hreq]
    unfold CallP.lay AuthP.lay
    dsimp only
    simp only [List.length_append, nbL_len]
    have hp : (padB (x.mark c water).body.length).length ≤ 3 := by
      rw [padB_len]
      unfold pads
      omega
    have hp0 : (padB 0).length ≤ 3 := by decide
    simp only [List.length_nil, List.length_cons]
    omega
section
variable {c : Cf} {now next : Int} {I : List Is} {L : List Wt} {D : List Oc} {n1 n2 : Int}
def bumps (I : List Is) (xs : List Wt) : List Is := xs.foldl (fun I x => bump1 I x.seq) I
theorem bumps_len : ∀ (xs : List Wt) (I : List Is), (bumps I xs).length = I.length
  | [], _ => rfl
  | x :: xs, I => (bumps_len xs (bump1 I x.seq)).trans (bump_len I _)
theorem bumps_snoc (I : List Is) (xs : List Wt) (x : Wt) : bumps I (xs ++ [x]) = bump1 (bumps I xs) x.seq := by simp [bumps]
theorem bumps_ne : ∀ (xs : List Wt) (I : List Is) (k : Nat), (∀ x ∈ xs, 9 ≤ x.seq ∧ x.seq ≠ 9 + k) → (bumps I xs)[k]? = I[k]?
  | [], _, _, _ => rfl
  | x :: xs, I, k, h => by
    show (bumps (bump1 I x.seq) xs)[k]? = _
    rw [bumps_ne xs _ k (fun y hy => h y (List.mem_cons_of_mem _ hy))]
    unfold bump1
    have := h x (by simp)
    have hne : (x.seq - 9).toNat ≠ k := by omega
    rw [List.getElem?_modify]
    cases I[k]? <;> simp [hne]
theorem bumps_at : ∀ (xs : List Wt) (I : List Is) (k : Nat) (i : Is), xs.Pairwise (fun a b => a.seq < b.seq ∧ a.fin ≤ b.fin) → (∀ x ∈ xs, 9 ≤ x.seq) → I[k]? = some i → (bumps I xs)[k]? = some (if ∃ x ∈ xs, x.seq = 9 + k then { i with sent := i.sent + 1 } else i)
  | [], _, _, _, _, _, hi => by simp [bumps, hi]
  | x :: xs, I, k, i, hp, h, hi => by
    show (bumps (bump1 I x.seq) xs)[k]? = _
    have hp' := List.pairwise_cons.1 hp
    have hx := h x (by simp)
    by_cases hk : x.seq = 9 + k
    · have h1 : (bump1 I x.seq)[k]? = some { i with sent := i.sent + 1 } := by
        unfold bump1
        rw [hk, show ((9 : Int) + k - 9).toNat = k by omega]
        exact mod_is hi
      rw [bumps_ne xs _ k (fun y hy => ⟨h y (List.mem_cons_of_mem _ hy), by have := (hp'.1 y hy).1; omega⟩), h1, if_pos ⟨x, by simp, hk⟩]
    · have h1 : (bump1 I x.seq)[k]? = some i := by
        unfold bump1
        exact mod_ne hi (by omega)
      rw [bumps_at xs _ k i hp'.2 (fun y hy => h y (List.mem_cons_of_mem _ hy)) h1]
      congr 1
      by_cases he : ∃ y ∈ xs, y.seq = 9 + k
      · obtain ⟨y, hy, e⟩ := he
        rw [if_pos ⟨y, hy, e⟩, if_pos ⟨y, List.mem_cons_of_mem _ hy, e⟩]
      · rw [if_neg he, if_neg]
        rintro ⟨y, hy, e⟩
        rcases List.mem_cons.1 hy with rfl | hy
        · exact hk e
        · exact he ⟨y, hy, e⟩
theorem dueL_mem {x' : Wt} (h : x' ∈ dueL c now L) : ∃ x ∈ L, (dueW c now x = true ∧ x' = givW c now x) ∨ (dueW c now x = false ∧ x' = x) := by
  unfold dueL at h
  obtain ⟨x, hx, rfl⟩ := List.mem_map.1 h
  refine ⟨x, hx, ?_⟩
  cases hd : dueW c now x
  · exact .inr ⟨rfl, rfl⟩
  · exact .inl ⟨rfl, rfl⟩
theorem dueL_same {x : Wt} (h : x ∈ L) : ∃ x' ∈ dueL c now L, x'.seq = x.seq := by
  refine ⟨_, List.mem_map_of_mem h, ?_⟩
  show (if dueW c now x then givW c now x else x).seq = x.seq
  split <;> rfl
theorem waterL_due : waterL next (dueL c now L) = waterL next L := by
  cases L with
  | nil => rfl
  | cons x L =>
    show (if dueW c now x then givW c now x else x).seq = x.seq
    split <;> rfl
/-- Due, as the book has it -/
theorem OM.due (h : OM c now next I L [] n1 n2) (hc : OnC c) : OM c now next (bumps I (L.filter (dueW c now))) (dueL c now L) [] n1 n2 := by
  have hsub : (L.filter (dueW c now)).Sublist L := List.filter_sublist
  have hp := h.srt.sublist hsub
  have h9 : ∀ x ∈ L.filter (dueW c now), 9 ≤ x.seq := fun x hx => (h.seq_lt (hsub.subset hx)).1
  have hat := fun k i (hi : I[k]? = some i) => bumps_at (L.filter (dueW c now)) I k i hp h9 hi
  have hinv : ∀ (k : Nat) (i : Is), (bumps I (L.filter (dueW c now)))[k]? = some i → ∃ i0, I[k]? = some i0 ∧ i.seq = i0.seq ∧ i.over = i0.over := fun k i hi => by
    have hl := (List.getElem?_eq_some_iff.1 hi).1
    rw [bumps_len] at hl
    have := hat k _ (List.getElem?_eq_getElem hl)
    rw [hi] at this
    refine ⟨_, List.getElem?_eq_getElem hl, ?_⟩
    rw [Option.some.inj this]
    split <;> exact ⟨rfl, rfl⟩
  refine ⟨fun k i hi => ?_, by rw [bumps_len]; exact h.nxt, h.now0, fun x' hx' => ?_, fun d hd => (by cases hd), fun k i hi ho => ?_, ?_, ⟨List.nodup_nil, fun d hd => (by cases hd)⟩, fun x' hx' => ?_, fun x' hx' => ?_, h.lon⟩
  · obtain ⟨i0, a1, a2, _⟩ := hinv k i hi
    rw [a2]; exact h.num k i0 a1
  · obtain ⟨x, hx, hd⟩ := dueL_mem hx'
    obtain ⟨k, i, a1, a2, a3, a4⟩ := h.wt x hx
    have hk := h.num k i a1
    have h1 := hat k i a1
    rcases hd with ⟨hd, he⟩ | ⟨hd, he⟩ <;> rw [he]
    · rw [if_pos ⟨x, List.mem_filter.2 ⟨hx, hd⟩, a3.seq.trans hk⟩] at h1
      exact ⟨k, _, h1, a2, a3.give hc hd, a4⟩
    · rw [if_neg] at h1
      · exact ⟨k, i, h1, a2, a3, a4⟩
      · rintro ⟨y, hy, e⟩
        obtain ⟨hy1, hy2⟩ := List.mem_filter.1 hy
        have : y = x := by
          obtain ⟨ky, hky⟩ := List.mem_iff_getElem?.1 hy1
          obtain ⟨kx, hkx⟩ := List.mem_iff_getElem?.1 hx
          have hpw := List.pairwise_iff_getElem.1 h.srt
          have ly := (List.getElem?_eq_some_iff.1 hky).1
          have lx := (List.getElem?_eq_some_iff.1 hkx).1
          have gy := (List.getElem?_eq_some_iff.1 hky).2
          have gx := (List.getElem?_eq_some_iff.1 hkx).2
          have es : y.seq = x.seq := by rw [e, a3.seq, hk]
          rcases Nat.lt_trichotomy ky kx with hlt | heq | hgt
          · have := (hpw ky kx ly lx hlt).1
            rw [gy, gx] at this; omega
          · subst heq; rw [← gy, ← gx]
          · have := (hpw kx ky lx ly hgt).1
            rw [gy, gx] at this; omega
        rw [this, hd] at hy2
        cases hy2
  · obtain ⟨i0, a1, a2, a3⟩ := hinv k i hi
    rcases h.all k i0 a1 (a3.symm.trans ho) with ⟨x, hx, e⟩ | ⟨d, hd, _⟩
    · obtain ⟨x', hx', e'⟩ := dueL_same (c := c) (now := now) hx
      exact .inl ⟨x', hx', by rw [e', e, a2]⟩
    · cases hd
  · unfold dueL
    refine List.pairwise_map.2 (h.srt.imp fun {a b} e => ?_)
    have e1 : ∀ x : Wt, (if dueW c now x then givW c now x else x).seq = x.seq := fun x => by split <;> rfl
    have e2 : ∀ x : Wt, (if dueW c now x then givW c now x else x).fin = x.fin := fun x => by split <;> rfl
    rw [e1, e1, e2, e2]
    exact e
  · obtain ⟨x, hx, ⟨_, e⟩ | ⟨_, e⟩⟩ := dueL_mem hx' <;> rw [e]
    · exact h.win x hx
    · exact h.win x hx
  · obtain ⟨x, hx, ⟨_, e⟩ | ⟨_, e⟩⟩ := dueL_mem hx' <;> rw [e]
    · exact h.lo x hx
    · exact h.lo x hx
/-- and again, at the same time: nothing -/
theorem OM.idle (h : OM c now next I L [] n1 n2) (hc : OnC c) : ∀ x ∈ dueL c now L, dueW c now x = false := by
  intro x' hx'
  obtain ⟨x, hx, ⟨hd, e⟩ | ⟨hd, e⟩⟩ := dueL_mem hx' <;> rw [e]
  · obtain ⟨k, i, a1, a2, a3, a4⟩ := h.wt x hx
    have := a3.s0
    have := a3.s1
    exact givW_idle hc now (by omega)
  · exact hd
end
end Go.Proofs.YtfcbjcebkahehaaGreatDoor.Cl
namespace Go.Proofs.YtfcbjcebkahehaaGreatDoor.Cl
open Go.RowKit
section
variable {K K' : Nat → Nat} {w w' : World} {B t p xb S : Nat} {c : Cf} {oa : Option Addr} {cap : Nat} {next now : Int} {L : List Wt} {D R : List Oc} {vw vd v : Value} {q : Mq} {vi : Value} {I : List Is} {n1 n2 : Int}
/-- behind some of the datagrams -/
structure LD (K : Nat → Nat) (w : World) (B t p xb S : Nat) (c : Cf) (oa : Option Addr) (cap : Nat) (next now : Int) (L : List Wt) (vw vd : Value) (q : Mq) (vi : Value) (I : List Is) (n1 sd wt : Int) (v : Value) : Prop where
  pc : PC K w B t p c oa cap next now (dueL c now L) [] vw vd q
  me : TB K w (t + 20) xb (lfB p vi n1 sd)
  is : RW 99 4 isC K w B (t + 21) vi I
  ls : RW 78 3 pkC K w B (t + 50) v (pksL c wt now L)
  bx : TB K w (t + 30) S (.cells #[.int .i64 c.pb, .int .i64 c.pc, .int .i64 c.pt] 23)
theorem LD.to {wt : Int} {T : Nat → Prop} (h : LD K w B t p xb S c oa cap next now L vw vd q vi I n1 n2 wt v) (m : Mv T w w' K K') (ht : ∀ t', T t' → t + 50 < t') : LD K' w' B t p xb S c oa cap next now L vw vd q vi I n1 n2 wt v :=
  ⟨h.pc.to m (fun t' e => by have := ht t' e; omega), h.me.mv m (fun e => by have := ht _ e; omega), h.is.mv m (fun e => by have := ht _ e; omega), h.ls.mv m (fun e => by have := ht _ e; omega), h.bx.mv m (fun e => by have := ht _ e; omega)⟩
set_option maxRecDepth 8000 in
set_option maxHeartbeats 8000000 in
theorem LF.due_any (h : LF K w B t p xb c oa cap next now L [] vw vd q vi I n1 n2) :
    Calls Tryz.prog 50 #[ptr xb, .agg #[.int .i64 c.pb, .int .i64 c.pc, .int .i64 c.pt]] w fun e w' => e = .returned (.bool true) ∧ Hid (∃ K' I' n2', LF K' w' B t p xb c oa cap next now (dueL c now L) [] vw vd q vi I' n1 n2' ∧ I'.length = I.length ∧ Mv (fun u => t ≤ u) w w' K K') := by
  have hc := h.hc
  have hIl := h.hI
  have hnw := h.hn
  have hom := h.om
  obtain ⟨S, hS⟩ : ∃ y, w.heap.size = y := ⟨_, rfl⟩
  obtain ⟨w0, hw0⟩ : ∃ y, w.alloc (.cells #[.int .i64 c.pb, .int .i64 c.pc, .int .i64 c.pt] 23) = y := ⟨_, rfl⟩
  have B0 : Below w.heap.size w w0 := by rw [← hw0]; exact (Below.refl _ _).alloc (Nat.le_refl _) _
  have k0 : w0.heap[S]? = some (.cells #[.int .i64 c.pb, .int .i64 c.pc, .int .i64 c.pt] 23) := by rw [← hw0, ← hS]; exact (MapKept.heap_alloc w _).1
  have m0 := Mv.of_below B0 K (fun _ => t + 30)
  have h0 := h.to m0 (fun _ e => e.elim)
  have hKS : ext w K (fun _ => t + 30) S = t + 30 := ext_new (Nat.le_of_eq hS)
  have tS : TB (ext w K (fun _ => t + 30)) w0 (t + 30) S (.cells #[.int .i64 c.pb, .int .i64 c.pc, .int .i64 c.pt] 23) := ⟨k0, hKS⟩
  generalize ext w K (fun _ => t + 30) = K0 at m0 h0 hKS tS
  obtain ⟨wt, hwt⟩ : ∃ wt, waterL next L = wt := ⟨_, rfl⟩
  have hwat := hom.water hc.w1
  rw [hwt] at hwat
  have hfine : ∀ x ∈ L, x.fine := fun x hx => by
    obtain ⟨k, i, a1, a2, a3, a4⟩ := hom.wt x hx
    exact a3.fine hc (by omega)
  have hLI := hom.lenL
  have HDue : Hid (Calls Tryz.prog 20 #[ptr p] w0 fun e w' => ∃ v, e = .returned v ∧ Hid (∃ K', LD K' w' B t p xb S c oa cap next now L vw vd q vi (bumps I []) n1 n2 wt v ∧ Mv (fun u => t ≤ u) w w' K K')) := by
    refine (h0.pc.due_any (t + 50) (by omega) hfine (by omega)).mono ?_
    rintro e w' ⟨v, rfl, hh⟩
    obtain ⟨K', P', R', m'⟩ := hh.out
    rw [hwt] at R'
    exact ⟨v, rfl, K', ⟨P', h0.me.mv m' (by omega), h0.is.mv m' (by omega), R', tS.mv m' (by omega)⟩, (m0.mono (fun _ e => e.elim)).trans (m'.mono (fun u e => by omega))⟩
  have x0 := h0.ce0.1
  obtain ⟨oI, cI, evi, _, hgI⟩ := h.is.form
  obtain ⟨mI, hmI⟩ : ∃ m, I.length = m := ⟨_, rfl⟩
  rw [hmI] at evi
  subst evi
  have HG := hid hgI
  have hmB : mI ≤ 50000000 := by omega
  have hLB : L.length ≤ 50000000 := by omega
  obtain ⟨xs, hxs⟩ : ∃ xs, L.filter (dueW c now) = xs := ⟨_, rfl⟩
  have hxl : xs.length ≤ 50000000 := by have := List.length_filter_le (dueW c now) L; rw [hxs] at this; omega
  have hpk : (pksL c wt now L).length = xs.length := by unfold pksL; rw [hxs, List.length_map]
  have HN := hid (And.intro hmI (And.intro hmB (And.intro hnw (And.intro hc (And.intro hom (And.intro hwt (And.intro hwat (And.intro hxs (And.intro hxl hpk)))))))))
  have HL := hid hLB
  rw [hmI]
  clear h h0 hgI hIl hnw hc hom m0 tS k0 B0 hKS hmI hwt hwat hfine hLI hxs hxl hpk hmB hLB
  go_enter Tryz.func50, Tryz.ntmps50
  go_wp2_with fail
  refine HDue.out.mono ?_
  rintro _ w1 ⟨v, rfl, HD1⟩
  clear HDue x0
  obtain ⟨n, hn⟩ : ∃ n, xs.length = n := ⟨_, rfl⟩
  obtain ⟨oP, cP, evp, _, hgP⟩ := HD1.out.choose_spec.1.ls.form
  rw [HN.out.2.2.2.2.2.2.2.2.2, hn] at evp hgP
  subst evp
  have HP := hid hgP
  have HNn := hid hn
  clear hgP hn
  go_wp2_with fail
  go_loopw [7, 6] (fun u7 u6 wr => ∃ (j : Nat) (la : Int) (A R : List Wt) (sd : Int), u7 = .int .i64 (j : Int) ∧ u6 = .int .i64 la ∧ j ≤ n ∧ Hid (A.length = j ∧ A ++ R = xs ∧ (∀ x ∈ R, la < x.seq) ∧ (sd = n2 ∨ sd = wt) ∧ ∃ K', LD K' wr B t p xb S c oa cap next now L vw vd q (.slice oI mI cI) (bumps I A) n1 sd wt (.slice oP n cP) ∧ Mv (fun u => t ≤ u) w wr K K')) (fun u7 _ _ => n - (intOf u7).toNat)
  case atStart =>
    refine ⟨0, 0, [], xs, n2, rfl, rfl, by omega, rfl, rfl, fun x hx => ?_, .inl rfl, HD1.out⟩
    have hx' : x ∈ L.filter (dueW c now) := by rw [HN.out.2.2.2.2.2.2.2.1]; exact hx
    have := HN.out.2.2.2.2.1.seq_lt (List.mem_filter.1 hx').1
    omega
  case round =>
    obtain ⟨j, la, A, R, sd, rfl, rfl, hjn, HR⟩ := hrel
    clear HD1
    obtain ⟨wo, hwo⟩ : ∃ yy, yy = wr := ⟨_, rfl⟩
    subst hwo
    obtain ⟨hA, hAR, hla, hsd, K1, E, m1⟩ := HR.out
    have hlen : A.length + R.length = n := by rw [← HNn.out, ← hAR]; simp
    obtain ⟨hmI, hmB, hnw, hc, hom, hwt, hwat, hxs, hxl, hpk⟩ := HN.out
    cases R with
    | nil =>
      have hjn2 : j = n := by simp at hlen; omega
      subst hjn2
      have hAx : A = xs := by rw [← hAR, List.append_nil]
      rw [hAx] at E
      have om2 : OM c now next (bumps I xs) (dueL c now L) [] n1 sd := by
        have o2 := hom.due hc
        rw [hxs] at o2
        rcases hsd with e | e
        · rw [e]; exact o2
        · have := o2.raise2
          rw [waterL_due, hwt] at this
          rw [e]; exact this
      have hfine : ∀ x ∈ dueL c now L, x.fine := fun x hx => by
        obtain ⟨k, i, a1, a2, a3, a4⟩ := om2.wt x hx
        exact a3.fine hc (by omega)
      have hidle := hom.idle hc
      have hsame : dueL c now (dueL c now L) = dueL c now L := by
        have : (dueL c now L).map (fun x => if dueW c now x then givW c now x else x) = (dueL c now L).map id := List.map_congr_left (fun x hx => by rw [hidle x hx]; rfl)
        rw [List.map_id] at this
        exact this
      have hnone : (pksL c (waterL next (dueL c now L)) now (dueL c now L)) = [] := by
        unfold pksL
        rw [List.filter_eq_nil_iff.2 (fun x hx => by rw [hidle x hx]; decide)]
        rfl
      have HDue : Hid (Calls Tryz.prog 20 #[ptr p] wo fun e w' => ∃ o cp, e = .returned (.slice o 0 cp) ∧ Hid (∃ K' I' n2', LF K' w' B t p xb c oa cap next now (dueL c now L) [] vw vd q (.slice oI mI cI) I' n1 n2' ∧ I'.length = mI ∧ Mv (fun u => t ≤ u) w w' K K')) := by
        refine (E.pc.due_any (t + 60) (by omega) hfine (by rw [dueL_len]; have := HL.out; omega)).mono ?_
        rintro e w' ⟨v, rfl, hh⟩
        obtain ⟨K', P', R', m'⟩ := hh.out
        rw [hnone] at R'
        rw [hsame] at P'
        obtain ⟨o, cp, ev, _, _⟩ := R'.form
        refine ⟨o, cp, by rw [ev]; rfl, K', bumps I xs, sd, ⟨P', E.me.mv m' (by omega), E.is.mv m' (by omega), om2, hc, by rw [bumps_len, hmI]; exact hmB, hnw⟩, by rw [bumps_len, hmI], m1.trans (m'.mono (fun u e => by omega))⟩
      have x0 : wo.cell? ⟨xb, 0, none⟩ = some (ptr p) := cell_at E.me.at_ rfl
      clear hA hAR hla hsd E m1 hlen hmI hmB hnw hc hom hwt hwat hxs hxl hpk hAx om2 hfine hidle hsame hnone HR
      go_wp2_with fail
      refine HDue.out.mono ?_
      rintro _ w2 ⟨o, cp, rfl, H2⟩
      clear HDue
      go_wp2
      go_ret
      exact ⟨rfl, H2⟩
    | cons x R =>
      have hj : j < n := by simp at hlen; omega
      have hji : (j : Int) < (n : Int) := by omega
      obtain ⟨gP, rfl⟩ := HP.out (by omega)
      have hxm : x ∈ L ∧ dueW c now x = true := by
        have : x ∈ L.filter (dueW c now) := by rw [hxs, ← hAR]; simp
        exact List.mem_filter.1 this
      obtain ⟨k, i, a1, a2, a3, a4⟩ := hom.wt x hxm.1
      have hnum := hom.num k i a1
      have hxk : x.seq = 9 + k := a3.seq.trans hnum
      have hkI : k < mI := by rw [← hmI]; exact (List.getElem?_eq_some_iff.1 a1).1
      obtain ⟨gI, rfl⟩ := HG.out (by omega)
      have hpw : (A ++ x :: R).Pairwise (fun a b => a.seq < b.seq ∧ a.fin ≤ b.fin) := by
        rw [hAR, ← hxs]; exact hom.srt.sublist List.filter_sublist
      have hbA : (bumps I A)[k]? = some i := by
        rw [bumps_ne A I k (fun y hy => ?_)]
        · exact a1
        · have hyL : y ∈ L := by
            have : y ∈ L.filter (dueW c now) := by rw [hxs, ← hAR]; exact List.mem_append_left _ hy
            exact (List.mem_filter.1 this).1
          have := (srt_apart hpw hy (y := x) (by simp)).1
          have := (hom.seq_lt hyL).1
          omega
      have hbl : (bumps I A).length = mI := by rw [bumps_len]; exact hmI
      have hbn : ∀ (k : Nat) (i : Is), (bumps I A)[k]? = some i → i.seq = 9 + k := by
        have : ∀ (xs : List Wt) (I : List Is), (∀ (k : Nat) (i : Is), I[k]? = some i → i.seq = 9 + k) → ∀ (k : Nat) (i : Is), (bumps I xs)[k]? = some i → i.seq = 9 + k := by
          intro xs
          induction xs with
          | nil => intro I h; exact h
          | cons y xs ih =>
            intro I h
            refine ih (bump1 I y.seq) (fun k i hk => ?_)
            obtain ⟨i0, b1, b2 | b2⟩ := mod_at hk
            · rw [b2.2]; exact h k i0 b1
            · rw [b2.2]; exact h k i0 b1
        exact this A I hom.num
      have hpj : (pksL c wt now L)[j]? = some ⟨c.ad, x.dst, x.data c wt⟩ := by
        unfold pksL
        rw [hxs, ← hAR, List.getElem?_map, List.getElem?_append_right (by omega), hA]
        simp
      have hle := water_le (next := next) hom.srt hxm.1
      rw [hwt] at hle
      obtain ⟨cb, q1, q2, q3, q4⟩ := req_read hc a3 wt (by omega) hle (by omega)
      have hdst := a3.dst
      have had := hc.ad
      have e0 : wo.cell? ⟨gP, j * 3 + 2, none⟩ = some (.string ⟨(x.data c wt).toArray⟩) := E.ls.cell pkL (hpk.trans HNn.out) hpj 2 (by omega)
      obtain ⟨dat, hdat⟩ : ∃ d : ByteArray, (⟨(x.data c wt).toArray⟩ : ByteArray) = d := ⟨_, rfl⟩
      obtain ⟨cbs, hcbs⟩ : ∃ d : ByteArray, (⟨cb.toArray⟩ : ByteArray) = d := ⟨_, rfl⟩
      obtain ⟨vbs, hvbs⟩ : ∃ d : ByteArray, (⟨([] : List UInt8).toArray⟩ : ByteArray) = d := ⟨_, rfl⟩
      obtain ⟨abs, habs⟩ : ∃ d : ByteArray, (⟨([97, 98, 99, 100] : List UInt8).toArray⟩ : ByteArray) = d := ⟨_, rfl⟩
      obtain ⟨mch, hmch⟩ : ∃ d : ByteArray, (⟨c.sys.machine.toArray⟩ : ByteArray) = d := ⟨_, rfl⟩
      have HPa : Hid (Calls Tryz.prog 82 #[.string dat] wo fun e w' => e = .returned (.tuple #[.agg #[.int .i64 x.seq, .int .i64 2, .int .i64 7, .int .i64 1, .int .i64 2, .int .i64 1296126539, .string cbs, .int .i64 0, .string vbs, .string abs], .int .i64 0]) ∧ Below wo.heap.size wo w') := by
        have := parseCall_any (x.data c wt) wo E.pc.err q4
        rw [q1, hdat] at this
        rw [← hcbs, ← hvbs, ← habs]
        exact this
      have HJu : Hid (∀ w2, Below wo.heap.size wo w2 → Calls Tryz.prog 83 #[.agg #[.int .i64 x.seq, .int .i64 2, .int .i64 7, .int .i64 1, .int .i64 2, .int .i64 1296126539, .string cbs, .int .i64 0, .string vbs, .string abs]] w2 fun e w' => ∃ ga gn gc, e = .returned (.tuple #[.agg #[.int .i64 c.inst, .int .i64 x.seq, .int .i64 wt, .int .i64 c.sys.stamp, .string mch, .int .i64 c.sys.user, .int .i64 c.sys.group, .slice ga gn gc], .bool true, .int .i64 0]) ∧ Below w2.heap.size w2 w') := fun w2 hb => by
        have := judge_any x.seq 2 7 1 2 1296126539 0 cb [] abs w2 (E.pc.err.below hb) (by omega)
        rw [q3] at this
        rw [← hcbs, ← hvbs]
        refine this.mono ?_
        rintro e w' ⟨a, cp, he, _, hb⟩
        rw [← hmch]
        exact ⟨a, _, cp, he, hb⟩
      rw [hdat] at e0
      have HO : Hid (∀ w2, Below wo.heap.size wo w2 → Calls Tryz.prog 48 #[ptr xb, .int .i64 x.seq] w2 fun e w' => e = .returned (.int .i64 (k : Int)) ∧ w' = w2) := fun w2 hb => by
        have E2 := E.to (Mv.of_below hb K1 (fun _ => t + 51)) (fun _ e => e.elim)
        have := Cl.of_any E2.me E2.is hbn x.seq (by rw [hbl]; omega)
        have e : ofP (bumps I A).length x.seq = (k : Int) := by
          unfold ofP
          rw [if_pos (by rw [hbl, hxk]; omega), hxk]
          omega
        rwa [e] at this
      have hset : Hid (∀ w2, Below wo.heap.size wo w2 → w2.cell? ⟨xb, 1, none⟩ = some (.slice (some ⟨gI, 0, none⟩) mI cI) ∧ w2.cell? ⟨gI, k * 4 + 2, none⟩ = some (.int .i64 i.sent) ∧ w2.frozen? ⟨gI, k * 4 + 2, none⟩ = false ∧ ∀ w3, w2.setCell ⟨gI, k * 4 + 2, none⟩ (.int .i64 (i.sent + 1)) = w3 → ∃ K3, LD K3 w3 B t p xb S c oa cap next now L vw vd q (.slice (some ⟨gI, 0, none⟩) mI cI) (bumps I (A ++ [x])) n1 sd wt (.slice (some ⟨gP, 0, none⟩) n cP) ∧ Mv (fun u => t ≤ u) w w3 K K3 ∧ ∀ b, wo.heap.size ≤ b → b < w2.heap.size → w3.heap[b]? = w2.heap[b]?) := fun w2 hb => by
        have mz := Mv.of_below hb K1 (fun _ => t + 51)
        have E2 := E.to mz (fun _ e => e.elim)
        obtain ⟨d0, d1, d2, d3⟩ := E2.is.is4 hbl hbA
        refine ⟨cell_at E2.me.at_ rfl, d2, E2.is.frozen _, fun w3 hw3 => ?_⟩
        obtain ⟨r1, r2⟩ := E2.is.isSet hbl hbA (fun i => { i with sent := i.sent + 1 }) 2 (.int .i64 (i.sent + 1)) (by omega) rfl
        rw [hw3] at r1 r2
        refine ⟨_, ⟨E2.pc.to r2 (fun t' e => by omega), E2.me.mv r2 (by omega), ?_, E2.ls.mv r2 (by omega), E2.bx.mv r2 (by omega)⟩, m1.trans ((mz.mono (fun _ e => e.elim)).trans (r2.mono (fun u e => by omega))), fun b hb1 hb2 => r2.kept b hb2 (by rw [ext_new hb1]; omega)⟩
        rw [bumps_snoc]
        have : bump1 (bumps I A) x.seq = (bumps I A).modify k (fun i => { i with sent := i.sent + 1 }) := by
          unfold bump1
          rw [hxk, show ((9 : Int) + k - 9).toNat = k by omega]
        rw [this]
        exact r1
      have hs0 := a3.s0
      have hs1 := a3.s1
      have hs2 := a3.s2
      have ht2 := hc.t2
      have hdl : x.snd < c.pt := by
        have := hxm.2
        unfold dueW dueB at this
        simp only [Bool.and_eq_true, decide_eq_true_eq] at this
        exact this.1
      obtain ⟨sn, hsn⟩ : ∃ sn, i.sent + 1 = sn := ⟨_, rfl⟩
      have hsnb : -9223372036854775808 ≤ i.sent + 1 ∧ i.sent + 1 ≤ 9223372036854775807 := by omega
      have hsw : wrap64 (i.sent + 1) = sn := by rw [wrap_in hsnb, hsn]
      rw [hsn] at hset
      have g1 : decide ((k : Int) < 0) = false := decide_eq_false (by omega)
      have g2 : decide (x.seq ≤ la) = false := decide_eq_false (by have := hla x (by simp); omega)
      have g3 : decide (c.pt < sn) = false := decide_eq_false (by omega)
      have g4 : decide (x.seq < wt) = false := decide_eq_false (by omega)
      have g5 : decide (wt < sd) = false := decide_eq_false (by rcases hsd with e | e <;> omega)
      have hinst := hc.inst
      have hkm : (k : Int) < (mI : Int) := by omega
      have hkm0 : (0 : Int) ≤ (k : Int) := by omega
      have hj0 : (0 : Int) ≤ (j : Int) := by omega
      have hjB : j ≤ 100000000000 := by have := HNn.out; omega
      have HA2 : Hid ((A ++ [x]).length = j + 1 ∧ (A ++ [x]) ++ R = xs ∧ (∀ y ∈ R, x.seq < y.seq)) := ⟨by simp [hA], by simpa using hAR, fun y hy => ((List.pairwise_cons.1 (List.pairwise_append.1 hpw).2.1).1 y hy).1⟩
      have HX : Hid ((bumps I (A ++ [x])).length = mI ∧ (bumps I (A ++ [x]))[k]? = some ⟨i.seq, i.at_, sn, false⟩ ∧ (pksL c wt now L)[j]? = some ⟨65537, 65636, x.data c wt⟩ ∧ (pksL c wt now L).length = n ∧ waterL next (dueL c now L) = wt) := by
        refine ⟨by rw [bumps_len]; exact hmI, ?_, by rw [hpj, had, hdst], by rw [hpk]; exact HNn.out, by rw [waterL_due]; exact hwt⟩
        rw [bumps_snoc]
        unfold bump1
        rw [hxk, show ((9 : Int) + k - 9).toNat = k by omega, mod_is hbA, ← hsn, a2]
      have HJJ := hid hj
      rw [hinst] at HJu
      have hj1 : wrap64 ((j : Int) + 1) = (j : Int) + 1 := wrapS hjB
      clear hjB
      clear hA hAR hla hsd E m1 hlen hmI hmB hnw hc hom hwt hwat hxs hxl hpk HR hxm a1 a2 a3 a4 hnum hkI hpw hbA hbl hbn hpj hle q1 q2 q3 q4 hdst had hdat hcbs hvbs habs hmch hs0 hs1 hs2 ht2 hdl hsn hsnb hjn hj hinst hxk
      go_wp2_with fail
      refine HPa.out.mono ?_
      rintro _ w2 ⟨rfl, hb2⟩
      clear HPa e0
      obtain ⟨S3, hS3⟩ : ∃ y, w2.heap.size = y := ⟨_, rfl⟩
      obtain ⟨y0, hy0⟩ : ∃ y, w2.alloc (.cells #[.int .i64 0, .int .i64 0, .int .i64 0, .int .i64 0, .int .i64 0, .int .i64 0, .string ⟨#[]⟩, .int .i64 0, .string ⟨#[]⟩, .string ⟨#[]⟩] 108) = y := ⟨_, rfl⟩
      have ky0 : y0.heap[S3]? = some (.cells #[.int .i64 0, .int .i64 0, .int .i64 0, .int .i64 0, .int .i64 0, .int .i64 0, .string ⟨#[]⟩, .int .i64 0, .string ⟨#[]⟩, .string ⟨#[]⟩] 108) := by rw [← hy0, ← hS3]; exact (MapKept.heap_alloc w2 _).1
      have By0 : Below w2.heap.size w2 y0 := by rw [← hy0]; exact (Below.refl _ _).alloc (Nat.le_refl _) _
      have hley : w2.heap.size ≤ S3 := by omega
      obtain ⟨y1, hy1⟩ : ∃ y, y0.setCell ⟨S3, 0, none⟩ (.int .i64 x.seq) = y := ⟨_, rfl⟩
      have zy0 : y0.cell? ⟨S3, 0, none⟩ = some (.int .i64 0) := cell_at ky0 rfl
      have fy0 : y0.frozen? ⟨S3, 0, none⟩ = false := frozen_at ky0 0
      have ky1 : y1.heap[S3]? = some (.cells #[.int .i64 x.seq, .int .i64 0, .int .i64 0, .int .i64 0, .int .i64 0, .int .i64 0, .string ⟨#[]⟩, .int .i64 0, .string ⟨#[]⟩, .string ⟨#[]⟩] 108) := by rw [← hy1]; exact set_at ky0 0 _
      have By1 : Below w2.heap.size w2 y1 := by rw [← hy1]; exact below_set By0 hley
      obtain ⟨y2, hy2⟩ : ∃ y, y1.setCell ⟨S3, 1, none⟩ (.int .i64 2) = y := ⟨_, rfl⟩
      have zy1 : y1.cell? ⟨S3, 1, none⟩ = some (.int .i64 0) := cell_at ky1 rfl
      have fy1 : y1.frozen? ⟨S3, 1, none⟩ = false := frozen_at ky1 1
      have ky2 : y2.heap[S3]? = some (.cells #[.int .i64 x.seq, .int .i64 2, .int .i64 0, .int .i64 0, .int .i64 0, .int .i64 0, .string ⟨#[]⟩, .int .i64 0, .string ⟨#[]⟩, .string ⟨#[]⟩] 108) := by rw [← hy2]; exact set_at ky1 1 _
      have By2 : Below w2.heap.size w2 y2 := by rw [← hy2]; exact below_set By1 hley
      clear ky1 By1
      obtain ⟨y3, hy3⟩ : ∃ y, y2.setCell ⟨S3, 2, none⟩ (.int .i64 7) = y := ⟨_, rfl⟩
      have zy2 : y2.cell? ⟨S3, 2, none⟩ = some (.int .i64 0) := cell_at ky2 rfl
      have fy2 : y2.frozen? ⟨S3, 2, none⟩ = false := frozen_at ky2 2
      have ky3 : y3.heap[S3]? = some (.cells #[.int .i64 x.seq, .int .i64 2, .int .i64 7, .int .i64 0, .int .i64 0, .int .i64 0, .string ⟨#[]⟩, .int .i64 0, .string ⟨#[]⟩, .string ⟨#[]⟩] 108) := by rw [← hy3]; exact set_at ky2 2 _
      have By3 : Below w2.heap.size w2 y3 := by rw [← hy3]; exact below_set By2 hley
      clear ky2 By2
      obtain ⟨y4, hy4⟩ : ∃ y, y3.setCell ⟨S3, 3, none⟩ (.int .i64 1) = y := ⟨_, rfl⟩
      have zy3 : y3.cell? ⟨S3, 3, none⟩ = some (.int .i64 0) := cell_at ky3 rfl
      have fy3 : y3.frozen? ⟨S3, 3, none⟩ = false := frozen_at ky3 3
      have ky4 : y4.heap[S3]? = some (.cells #[.int .i64 x.seq, .int .i64 2, .int .i64 7, .int .i64 1, .int .i64 0, .int .i64 0, .string ⟨#[]⟩, .int .i64 0, .string ⟨#[]⟩, .string ⟨#[]⟩] 108) := by rw [← hy4]; exact set_at ky3 3 _
      have By4 : Below w2.heap.size w2 y4 := by rw [← hy4]; exact below_set By3 hley
      clear ky3 By3
      obtain ⟨y5, hy5⟩ : ∃ y, y4.setCell ⟨S3, 4, none⟩ (.int .i64 2) = y := ⟨_, rfl⟩
      have zy4 : y4.cell? ⟨S3, 4, none⟩ = some (.int .i64 0) := cell_at ky4 rfl
      have fy4 : y4.frozen? ⟨S3, 4, none⟩ = false := frozen_at ky4 4
      have ky5 : y5.heap[S3]? = some (.cells #[.int .i64 x.seq, .int .i64 2, .int .i64 7, .int .i64 1, .int .i64 2, .int .i64 0, .string ⟨#[]⟩, .int .i64 0, .string ⟨#[]⟩, .string ⟨#[]⟩] 108) := by rw [← hy5]; exact set_at ky4 4 _
      have By5 : Below w2.heap.size w2 y5 := by rw [← hy5]; exact below_set By4 hley
      clear ky4 By4
      obtain ⟨y6, hy6⟩ : ∃ y, y5.setCell ⟨S3, 5, none⟩ (.int .i64 1296126539) = y := ⟨_, rfl⟩
      have zy5 : y5.cell? ⟨S3, 5, none⟩ = some (.int .i64 0) := cell_at ky5 rfl
      have fy5 : y5.frozen? ⟨S3, 5, none⟩ = false := frozen_at ky5 5
      have ky6 : y6.heap[S3]? = some (.cells #[.int .i64 x.seq, .int .i64 2, .int .i64 7, .int .i64 1, .int .i64 2, .int .i64 1296126539, .string ⟨#[]⟩, .int .i64 0, .string ⟨#[]⟩, .string ⟨#[]⟩] 108) := by rw [← hy6]; exact set_at ky5 5 _
      have By6 : Below w2.heap.size w2 y6 := by rw [← hy6]; exact below_set By5 hley
      clear ky5 By5
      obtain ⟨y7, hy7⟩ : ∃ y, y6.setCell ⟨S3, 6, none⟩ (.string cbs) = y := ⟨_, rfl⟩
      have zy6 : y6.cell? ⟨S3, 6, none⟩ = some (.string ⟨#[]⟩) := cell_at ky6 rfl
      have fy6 : y6.frozen? ⟨S3, 6, none⟩ = false := frozen_at ky6 6
      have ky7 : y7.heap[S3]? = some (.cells #[.int .i64 x.seq, .int .i64 2, .int .i64 7, .int .i64 1, .int .i64 2, .int .i64 1296126539, .string cbs, .int .i64 0, .string ⟨#[]⟩, .string ⟨#[]⟩] 108) := by rw [← hy7]; exact set_at ky6 6 _
      have By7 : Below w2.heap.size w2 y7 := by rw [← hy7]; exact below_set By6 hley
      clear ky6 By6
      obtain ⟨y8, hy8⟩ : ∃ y, y7.setCell ⟨S3, 7, none⟩ (.int .i64 0) = y := ⟨_, rfl⟩
      have zy7 : y7.cell? ⟨S3, 7, none⟩ = some (.int .i64 0) := cell_at ky7 rfl
      have fy7 : y7.frozen? ⟨S3, 7, none⟩ = false := frozen_at ky7 7
      have ky8 : y8.heap[S3]? = some (.cells #[.int .i64 x.seq, .int .i64 2, .int .i64 7, .int .i64 1, .int .i64 2, .int .i64 1296126539, .string cbs, .int .i64 0, .string ⟨#[]⟩, .string ⟨#[]⟩] 108) := by rw [← hy8]; exact set_at ky7 7 _
      have By8 : Below w2.heap.size w2 y8 := by rw [← hy8]; exact below_set By7 hley
      clear ky7 By7
      obtain ⟨y9, hy9⟩ : ∃ y, y8.setCell ⟨S3, 8, none⟩ (.string vbs) = y := ⟨_, rfl⟩
      have zy8 : y8.cell? ⟨S3, 8, none⟩ = some (.string ⟨#[]⟩) := cell_at ky8 rfl
      have fy8 : y8.frozen? ⟨S3, 8, none⟩ = false := frozen_at ky8 8
      have ky9 : y9.heap[S3]? = some (.cells #[.int .i64 x.seq, .int .i64 2, .int .i64 7, .int .i64 1, .int .i64 2, .int .i64 1296126539, .string cbs, .int .i64 0, .string vbs, .string ⟨#[]⟩] 108) := by rw [← hy9]; exact set_at ky8 8 _
      have By9 : Below w2.heap.size w2 y9 := by rw [← hy9]; exact below_set By8 hley
      clear ky8 By8
      obtain ⟨w3, hw3⟩ : ∃ y, y9.setCell ⟨S3, 9, none⟩ (.string abs) = y := ⟨_, rfl⟩
      have zy9 : y9.cell? ⟨S3, 9, none⟩ = some (.string ⟨#[]⟩) := cell_at ky9 rfl
      have fy9 : y9.frozen? ⟨S3, 9, none⟩ = false := frozen_at ky9 9
      have kw3 : w3.heap[S3]? = some (.cells #[.int .i64 x.seq, .int .i64 2, .int .i64 7, .int .i64 1, .int .i64 2, .int .i64 1296126539, .string cbs, .int .i64 0, .string vbs, .string abs] 108) := by rw [← hw3]; exact set_at ky9 9 _
      have Bw3 : Below w2.heap.size w2 w3 := by rw [← hw3]; exact below_set By9 hley
      clear ky9 By9
      clear ky0 By0 hley
      have hB3 : Below wo.heap.size wo w3 := hb2.trans (Bw3.mono hb2.size)
      have J3 := hid (HJu.out w3 hB3)
      have c0 : w3.cell? ⟨S3, 0, none⟩ = some (.int .i64 x.seq) := cell_at kw3 rfl
      have c1 : w3.cell? ⟨S3, 1, none⟩ = some (.int .i64 2) := cell_at kw3 rfl
      have c2 : w3.cell? ⟨S3, 2, none⟩ = some (.int .i64 7) := cell_at kw3 rfl
      have c3 : w3.cell? ⟨S3, 3, none⟩ = some (.int .i64 1) := cell_at kw3 rfl
      have c4 : w3.cell? ⟨S3, 4, none⟩ = some (.int .i64 2) := cell_at kw3 rfl
      have c5 : w3.cell? ⟨S3, 5, none⟩ = some (.int .i64 1296126539) := cell_at kw3 rfl
      have c6 : w3.cell? ⟨S3, 6, none⟩ = some (.string cbs) := cell_at kw3 rfl
      have c7 : w3.cell? ⟨S3, 7, none⟩ = some (.int .i64 0) := cell_at kw3 rfl
      have c8 : w3.cell? ⟨S3, 8, none⟩ = some (.string vbs) := cell_at kw3 rfl
      have c9 : w3.cell? ⟨S3, 9, none⟩ = some (.string abs) := cell_at kw3 rfl
      have HK3 := hid (And.intro kw3 (And.intro hB3 (show wo.heap.size ≤ S3 by have := hb2.size; omega)))
      clear kw3 Bw3 hb2 hB3 HJu
      go_wp2_with fail
      clear hy0 zy0 fy0 hy1 zy1 fy1 hy2 zy2 fy2 hy3 zy3 fy3 hy4 zy4 fy4 hy5 zy5 fy5 hy6 zy6 fy6 hy7 zy7 fy7 hy8 zy8 fy8 hy9 zy9 fy9 hw3 hS3
      refine J3.out.mono ?_
      rintro _ w4 ⟨ga, gn, gc, rfl, hb4⟩
      clear J3
      obtain ⟨S5, hS5⟩ : ∃ y, w4.heap.size = y := ⟨_, rfl⟩
      obtain ⟨v0, hv0⟩ : ∃ y, w4.alloc (.cells #[.int .i64 0, .int .i64 0, .int .i64 0, .int .i64 0, .string ⟨#[]⟩, .int .i64 0, .int .i64 0, .slice none 0 0] 131) = y := ⟨_, rfl⟩
      have kv0 : v0.heap[S5]? = some (.cells #[.int .i64 0, .int .i64 0, .int .i64 0, .int .i64 0, .string ⟨#[]⟩, .int .i64 0, .int .i64 0, .slice none 0 0] 131) := by rw [← hv0, ← hS5]; exact (MapKept.heap_alloc w4 _).1
      have Bv0 : Below w4.heap.size w4 v0 := by rw [← hv0]; exact (Below.refl _ _).alloc (Nat.le_refl _) _
      have hlev : w4.heap.size ≤ S5 := by omega
      obtain ⟨v1, hv1⟩ : ∃ y, v0.setCell ⟨S5, 0, none⟩ (.int .i64 5) = y := ⟨_, rfl⟩
      have zv0 : v0.cell? ⟨S5, 0, none⟩ = some (.int .i64 0) := cell_at kv0 rfl
      have fv0 : v0.frozen? ⟨S5, 0, none⟩ = false := frozen_at kv0 0
      have kv1 : v1.heap[S5]? = some (.cells #[.int .i64 5, .int .i64 0, .int .i64 0, .int .i64 0, .string ⟨#[]⟩, .int .i64 0, .int .i64 0, .slice none 0 0] 131) := by rw [← hv1]; exact set_at kv0 0 _
      have Bv1 : Below w4.heap.size w4 v1 := by rw [← hv1]; exact below_set Bv0 hlev
      obtain ⟨v2, hv2⟩ : ∃ y, v1.setCell ⟨S5, 1, none⟩ (.int .i64 x.seq) = y := ⟨_, rfl⟩
      have zv1 : v1.cell? ⟨S5, 1, none⟩ = some (.int .i64 0) := cell_at kv1 rfl
      have fv1 : v1.frozen? ⟨S5, 1, none⟩ = false := frozen_at kv1 1
      have kv2 : v2.heap[S5]? = some (.cells #[.int .i64 5, .int .i64 x.seq, .int .i64 0, .int .i64 0, .string ⟨#[]⟩, .int .i64 0, .int .i64 0, .slice none 0 0] 131) := by rw [← hv2]; exact set_at kv1 1 _
      have Bv2 : Below w4.heap.size w4 v2 := by rw [← hv2]; exact below_set Bv1 hlev
      clear kv1 Bv1
      obtain ⟨v3, hv3⟩ : ∃ y, v2.setCell ⟨S5, 2, none⟩ (.int .i64 wt) = y := ⟨_, rfl⟩
      have zv2 : v2.cell? ⟨S5, 2, none⟩ = some (.int .i64 0) := cell_at kv2 rfl
      have fv2 : v2.frozen? ⟨S5, 2, none⟩ = false := frozen_at kv2 2
      have kv3 : v3.heap[S5]? = some (.cells #[.int .i64 5, .int .i64 x.seq, .int .i64 wt, .int .i64 0, .string ⟨#[]⟩, .int .i64 0, .int .i64 0, .slice none 0 0] 131) := by rw [← hv3]; exact set_at kv2 2 _
      have Bv3 : Below w4.heap.size w4 v3 := by rw [← hv3]; exact below_set Bv2 hlev
      clear kv2 Bv2
      obtain ⟨v4, hv4⟩ : ∃ y, v3.setCell ⟨S5, 3, none⟩ (.int .i64 c.sys.stamp) = y := ⟨_, rfl⟩
      have zv3 : v3.cell? ⟨S5, 3, none⟩ = some (.int .i64 0) := cell_at kv3 rfl
      have fv3 : v3.frozen? ⟨S5, 3, none⟩ = false := frozen_at kv3 3
      have kv4 : v4.heap[S5]? = some (.cells #[.int .i64 5, .int .i64 x.seq, .int .i64 wt, .int .i64 c.sys.stamp, .string ⟨#[]⟩, .int .i64 0, .int .i64 0, .slice none 0 0] 131) := by rw [← hv4]; exact set_at kv3 3 _
      have Bv4 : Below w4.heap.size w4 v4 := by rw [← hv4]; exact below_set Bv3 hlev
      clear kv3 Bv3
      obtain ⟨v5, hv5⟩ : ∃ y, v4.setCell ⟨S5, 4, none⟩ (.string mch) = y := ⟨_, rfl⟩
      have zv4 : v4.cell? ⟨S5, 4, none⟩ = some (.string ⟨#[]⟩) := cell_at kv4 rfl
      have fv4 : v4.frozen? ⟨S5, 4, none⟩ = false := frozen_at kv4 4
      have kv5 : v5.heap[S5]? = some (.cells #[.int .i64 5, .int .i64 x.seq, .int .i64 wt, .int .i64 c.sys.stamp, .string mch, .int .i64 0, .int .i64 0, .slice none 0 0] 131) := by rw [← hv5]; exact set_at kv4 4 _
      have Bv5 : Below w4.heap.size w4 v5 := by rw [← hv5]; exact below_set Bv4 hlev
      clear kv4 Bv4
      obtain ⟨v6, hv6⟩ : ∃ y, v5.setCell ⟨S5, 5, none⟩ (.int .i64 c.sys.user) = y := ⟨_, rfl⟩
      have zv5 : v5.cell? ⟨S5, 5, none⟩ = some (.int .i64 0) := cell_at kv5 rfl
      have fv5 : v5.frozen? ⟨S5, 5, none⟩ = false := frozen_at kv5 5
      have kv6 : v6.heap[S5]? = some (.cells #[.int .i64 5, .int .i64 x.seq, .int .i64 wt, .int .i64 c.sys.stamp, .string mch, .int .i64 c.sys.user, .int .i64 0, .slice none 0 0] 131) := by rw [← hv6]; exact set_at kv5 5 _
      have Bv6 : Below w4.heap.size w4 v6 := by rw [← hv6]; exact below_set Bv5 hlev
      clear kv5 Bv5
      obtain ⟨v7, hv7⟩ : ∃ y, v6.setCell ⟨S5, 6, none⟩ (.int .i64 c.sys.group) = y := ⟨_, rfl⟩
      have zv6 : v6.cell? ⟨S5, 6, none⟩ = some (.int .i64 0) := cell_at kv6 rfl
      have fv6 : v6.frozen? ⟨S5, 6, none⟩ = false := frozen_at kv6 6
      have kv7 : v7.heap[S5]? = some (.cells #[.int .i64 5, .int .i64 x.seq, .int .i64 wt, .int .i64 c.sys.stamp, .string mch, .int .i64 c.sys.user, .int .i64 c.sys.group, .slice none 0 0] 131) := by rw [← hv7]; exact set_at kv6 6 _
      have Bv7 : Below w4.heap.size w4 v7 := by rw [← hv7]; exact below_set Bv6 hlev
      clear kv6 Bv6
      obtain ⟨w5, hw5⟩ : ∃ y, v7.setCell ⟨S5, 7, none⟩ (.slice ga gn gc) = y := ⟨_, rfl⟩
      have zv7 : v7.cell? ⟨S5, 7, none⟩ = some (.slice none 0 0) := cell_at kv7 rfl
      have fv7 : v7.frozen? ⟨S5, 7, none⟩ = false := frozen_at kv7 7
      have kw5 : w5.heap[S5]? = some (.cells #[.int .i64 5, .int .i64 x.seq, .int .i64 wt, .int .i64 c.sys.stamp, .string mch, .int .i64 c.sys.user, .int .i64 c.sys.group, .slice ga gn gc] 131) := by rw [← hw5]; exact set_at kv7 7 _
      have Bw5 : Below w4.heap.size w4 w5 := by rw [← hw5]; exact below_set Bv7 hlev
      clear kv7 Bv7
      clear kv0 Bv0 hlev
      have hl3 : S3 < w3.heap.size := (Array.getElem?_eq_some_iff.1 HK3.out.1).1
      have hB5 : Below w3.heap.size w3 w5 := hb4.trans (Bw5.mono hb4.size)
      have hBo5 : Below wo.heap.size wo w5 := HK3.out.2.1.trans (hB5.mono HK3.out.2.1.size)
      have k3' : w5.heap[S3]? = some (.cells #[.int .i64 x.seq, .int .i64 2, .int .i64 7, .int .i64 1, .int .i64 2, .int .i64 1296126539, .string cbs, .int .i64 0, .string vbs, .string abs] 108) := (hB5.block S3 hl3).trans HK3.out.1
      have hl3' : S3 < w5.heap.size := (Array.getElem?_eq_some_iff.1 k3').1
      have hl5' : S5 < w5.heap.size := (Array.getElem?_eq_some_iff.1 kw5).1
      have hle5 : wo.heap.size ≤ S5 := by have := HK3.out.2.1.size; have := hb4.size; omega
      have O5 := hid (HO.out w5 hBo5)
      obtain ⟨y1, y2, y3, hs3⟩ := hset.out w5 hBo5
      obtain ⟨w6, hw6⟩ : ∃ w6, w5.setCell ⟨gI, k * 4 + 2, none⟩ (.int .i64 sn) = w6 := ⟨_, rfl⟩
      obtain ⟨K6, E6, m6, hkeep⟩ := hs3 w6 hw6
      have k36 : w6.heap[S3]? = some (.cells #[.int .i64 x.seq, .int .i64 2, .int .i64 7, .int .i64 1, .int .i64 2, .int .i64 1296126539, .string cbs, .int .i64 0, .string vbs, .string abs] 108) := (hkeep S3 HK3.out.2.2 hl3').trans k3'
      have k56 : w6.heap[S5]? = some (.cells #[.int .i64 5, .int .i64 x.seq, .int .i64 wt, .int .i64 c.sys.stamp, .string mch, .int .i64 c.sys.user, .int .i64 c.sys.group, .slice ga gn gc] 131) := (hkeep S5 hle5 hl5').trans kw5
      have b0 : w5.cell? ⟨S3, 0, none⟩ = some (.int .i64 x.seq) := cell_at k3' rfl
      have b1 : w5.cell? ⟨S5, 0, none⟩ = some (.int .i64 5) := cell_at kw5 rfl
      have b2 : w5.cell? ⟨S5, 1, none⟩ = some (.int .i64 x.seq) := cell_at kw5 rfl
      obtain ⟨Z, f, hf1, hf2⟩ : ∃ (Z : Type) (f : Z → World), (∀ z, Below w6.heap.size w6 (f z)) ∧ ∀ w', Below w6.heap.size w6 w' → ∃ z, w' = f z := ⟨{ w' // Below w6.heap.size w6 w' }, Subtype.val, fun z => z.2, fun w' h => ⟨⟨w', h⟩, rfl⟩⟩
      have hE : ∀ z, LD (ext w6 K6 (fun _ => t + 51)) (f z) B t p xb S c oa cap next now L vw vd q (.slice (some ⟨gI, 0, none⟩) mI cI) (bumps I (A ++ [x])) n1 sd wt (.slice (some ⟨gP, 0, none⟩) n cP) := fun z => E6.to (Mv.of_below (hf1 z) K6 _) (fun _ e => e.elim)
      have z0 : ∀ z, (f z).cell? ⟨xb, 0, none⟩ = some (ptr p) := fun z => cell_at (hE z).me.at_ rfl
      have z1 : ∀ z, (f z).cell? ⟨xb, 1, none⟩ = some (.slice (some ⟨gI, 0, none⟩) mI cI) := fun z => cell_at (hE z).me.at_ rfl
      have z2 : ∀ z, (f z).cell? ⟨gI, k * 4 + 2, none⟩ = some (.int .i64 sn) := fun z => ((hE z).is.is4 HX.out.1 HX.out.2.1).2.2.1
      have z3 : ∀ z, (f z).cell? ⟨gI, k * 4 + 3, none⟩ = some (.bool false) := fun z => ((hE z).is.is4 HX.out.1 HX.out.2.1).2.2.2
      have z4 : ∀ z, (f z).cell? ⟨S, 2, none⟩ = some (.int .i64 c.pt) := fun z => cell_at (hE z).bx.at_ rfl
      have z5 : ∀ z, (f z).cell? ⟨S5, 2, none⟩ = some (.int .i64 wt) := fun z => cell_at (((hf1 z).block S5 (Array.getElem?_eq_some_iff.1 k56).1).trans k56) rfl
      have z6 : ∀ z, (f z).cell? ⟨S5, 1, none⟩ = some (.int .i64 x.seq) := fun z => cell_at (((hf1 z).block S5 (Array.getElem?_eq_some_iff.1 k56).1).trans k56) rfl
      have z7 : ∀ z, (f z).cell? ⟨xb, 3, none⟩ = some (.int .i64 sd) := fun z => cell_at (hE z).me.at_ rfl
      have z8 : ∀ z, (f z).cell? ⟨gP, j * 3, none⟩ = some (.int .i64 65537) := fun z => (hE z).ls.cell pkL HX.out.2.2.2.1 HX.out.2.2.1 0 (by omega)
      have z9 : ∀ z, (f z).cell? ⟨gP, j * 3 + 1, none⟩ = some (.int .i64 65636) := fun z => (hE z).ls.cell pkL HX.out.2.2.2.1 HX.out.2.2.1 1 (by omega)
      have HWt : Hid (∀ z, Calls Tryz.prog 23 #[ptr p] (f z) fun e w' => e = .returned (.int .i64 wt) ∧ ∃ z', w' = f z') := fun z => by
        refine (hE z).pc.water_any.mono ?_
        rintro e w' ⟨rfl, rfl⟩
        exact ⟨by rw [HX.out.2.2.2.2], z, rfl⟩
      have HZ0 : Hid (∃ z, w6.drew = f z) := hf2 _ (Below.refl _ _).drew
      have HF : Hid (∀ z, (f z).frozen? ⟨xb, 3, none⟩ = false ∧ ∀ w7, (f z).setCell ⟨xb, 3, none⟩ (.int .i64 wt) = w7 → Hid ((A ++ [x]).length = j + 1 ∧ (A ++ [x]) ++ R = xs ∧ (∀ y ∈ R, x.seq < y.seq) ∧ (wt = n2 ∨ wt = wt) ∧ ∃ K', LD K' w7 B t p xb S c oa cap next now L vw vd q (.slice (some ⟨gI, 0, none⟩) mI cI) (bumps I (A ++ [x])) n1 wt wt (.slice (some ⟨gP, 0, none⟩) n cP) ∧ Mv (fun u => t ≤ u) w w7 K K')) := fun z => by
        have hz := hE z
        refine ⟨frozen_at hz.me.at_ 3, fun w7 hw7 => ⟨HA2.out.1, HA2.out.2.1, HA2.out.2.2, .inr rfl, ?_⟩⟩
        have m7 := Mv.of_set (f z) (ext w6 K6 (fun _ => t + 51)) ⟨xb, 3, none⟩ (.int .i64 wt) hz.me.k
        have k7 := set_at hz.me.at_ 3 (.int .i64 wt)
        rw [hw7] at m7 k7
        exact ⟨_, ⟨hz.pc.to m7 (fun t' e => by omega), ⟨k7, hz.me.k⟩, hz.is.mv m7 (by omega), hz.ls.mv m7 (by omega), hz.bx.mv m7 (by omega)⟩, m6.trans (((Mv.of_below (hf1 z) K6 _).mono (fun _ e => e.elim)).trans (m7.mono (fun u e => by omega)))⟩
      clear kw5 Bw5 hb4 hB5 hBo5 k3' hl3 hl3' hl5' hle5 hs3 hkeep k36 k56 E6 m6 hE hf1 hf2 HO hset HX HK3 HA2
      go_wp2_with fail
      refine O5.out.mono ?_
      rintro _ _ ⟨rfl, rfl⟩
      clear O5 c0 c1 c2 c3 c4 c5 c6 c7 c8 c9 hv0 zv0 fv0 hv1 zv1 fv1 hv2 zv2 fv2 hv3 zv3 fv3 hv4 zv4 fv4 hv5 zv5 fv5 hv6 zv6 fv6 hv7 zv7 fv7 hw5 hS5
      have instZ : Nonempty Z := ⟨HZ0.out.choose⟩
      go_wp2_with fail
      refine wp_region_class f (by kernel_rfl) (by kernel_rfl) HZ0.out ?_
      repeat (go_big_quiet_step (first | (go_at_call 23; exact HWt.out _)))
      refine wpQuiet_nil ?_
      rintro _ ⟨z, rfl⟩
      obtain ⟨fz, hz⟩ := HF.out z
      obtain ⟨w7, hw7⟩ : ∃ w7, (f z).setCell ⟨xb, 3, none⟩ (.int .i64 wt) = w7 := ⟨_, rfl⟩
      have H7 := hz w7 hw7
      clear hz HF HWt HZ0
      go_wp2
      go_roundw
      case rel => exact ⟨j + 1, x.seq, A ++ [x], R, wt, by first | (simp; done) | (rw [hj1]; simp), by first | rfl | simp, HJJ.out, H7.out.1, H7.out.2.1, H7.out.2.2.1, .inr rfl, H7.out.2.2.2.2⟩
      case measure => exact meas (by first | rfl | exact hj1) hji
end
end Go.Proofs.YtfcbjcebkahehaaGreatDoor.Cl
namespace Go.Proofs.YtfcbjcebkahehaaGreatDoor.Cl
open Go.RowKit
section
variable {K K' : Nat → Nat} {w w' : World} {B t p xb S : Nat} {c : Cf} {oa : Option Addr} {cap : Nat} {next now : Int} {L : List Wt} {D R : List Oc} {vw vd v : Value} {q : Mq} {vi : Value} {I : List Is} {n1 n2 : Int}
set_option maxRecDepth 8000 in
set_option maxHeartbeats 4000000 in
theorem PC.call_no (h : PC K w B t p c oa cap next now L D vw vd q) (dst prog vers proc : Int) (s : ByteArray) (r : Int) (hx : -1000000000000 ≤ next ∧ next ≤ 1000000000000) (hy : -1000000000000 ≤ waterL next L ∧ waterL next L ≤ 1000000000000) (hr : refP c.win next (waterL next L) dst prog vers proc s.size = r) (hr0 : r ≠ 0) :
    Calls Tryz.prog 19 #[ptr p, .int .i64 dst, .int .i64 prog, .int .i64 vers, .int .i64 proc, .string s] w fun e w' => e = .returned (.tuple #[.int .i64 0, .int .i64 r]) ∧ ∃ k, w' = w.drewN k := by
  have HR := hid (h.refuse_any dst prog vers proc s hx hy)
  rw [hr] at HR
  have hne : (r != 0) = true := by simpa using hr0
  clear h hx hy hr hr0
  go_enter Tryz.func19, Tryz.ntmps19
  go_wp2_with fail
  refine HR.out.mono ?_
  rintro _ w1 ⟨rfl, k, hk⟩
  have HK : Hid (∃ k, w1 = w.drewN k) := ⟨k, hk⟩
  clear HR hk
  go_wp2
  go_ret2
  exact ⟨rfl, HK.out⟩
/-- Tick, beside the book -/
theorem LF.tick_any (h : LF K w B t p xb c oa cap next now L [] vw vd q vi I n1 n2) (hn : now + 1 ≤ 100000000) :
    Calls Tryz.prog 21 #[ptr p] w fun e w' => (∃ v, e = .returned v) ∧ Hid (∃ K' L' D' vw' vd', LF K' w' B t p xb c oa cap next (now + 1) L' D' vw' vd' q vi I n1 n2 ∧ D'.length ≤ 50000000 ∧ Mv (fun u => t ≤ u) w w' K K') := by
  have hL := h.om.lenL
  have hI := h.hI
  have h0 := h.om.now0
  refine (h.pc.tick_any (by omega) (by simp; omega)).mono ?_
  rintro e w' ⟨he, hh⟩
  obtain ⟨K', vw', vd', P, m⟩ := hh.out
  refine ⟨he, K', _, _, vw', vd', ⟨P, h.me.mv m (by omega), h.is.mv m (by omega), ?_, h.hc, h.hI, hn⟩, ?_, m.mono (fun u e => by omega)⟩
  · have := h.om.tick
    simpa using this
  · have h1 : (L.takeWhile (overB (now + 1))).length ≤ L.length := (List.takeWhile_prefix _).length_le
    simp only [List.nil_append, List.length_map]
    omega
/-- Hear, beside the book -/
theorem LF.hear_any (h : LF K w B t p xb c oa cap next now L [] vw vd q vi I n1 n2) (src dst : Int) (data : List UInt8) (hl : data.length ≤ 281474976710656) :
    Calls Tryz.prog 51 #[ptr p, .agg #[.int .i64 src, .int .i64 dst, .string ⟨data.toArray⟩]] w fun e w' => ∃ z : Int, e = .returned (.int .i64 z) ∧
      ((z = 0 ∧ (dst ≠ 65537 ∨ (parseR data).2 ≠ 0 ∨ src ≠ 65636 ∨ ∀ y ∈ L, y.seq ≠ (parseR data).1.xid)) ∨ (z = (parseR data).1.xid ∧ 9 ≤ z ∧ dst = 65537 ∧ (parseR data).2 = 0 ∧ src = 65636 ∧ ∃ y ∈ L, y.seq = (parseR data).1.xid)) ∧
      Hid (∃ K' L' D' vw' vd' q', LF K' w' B t p xb c oa cap next now L' D' vw' vd' q' vi I n1 n2 ∧ D'.length ≤ 50000000 ∧ Mv (fun u => t ≤ u ∧ u ≤ t + 5) w w' K K') := by
  have hL := h.om.lenL
  have hI := h.hI
  have hnb := h.hn
  have hdst : ∀ y ∈ L, y.dst = 65636 := fun y hy => by
    obtain ⟨k, i, a1, a2, a3, a4⟩ := h.om.wt y hy
    exact a3.dst
  refine (h.pc.hear_any src dst data hl (by omega) (by simp) (fun x hx => ?_)).mono ?_
  · obtain ⟨k, i, a1, a2, a3, a4⟩ := h.om.wt x hx
    have := a3.l0
    have := a3.l1
    omega
  rintro e w' (⟨he, hw, hb⟩ | ⟨A, x, R, he, hd, hr, hLe, hx, hA, hh⟩)
  · refine ⟨0, he, .inl ⟨rfl, ?_⟩, ?_⟩
    · rcases hw with e | e | e
      · exact .inl (by rw [← h.hc.ad]; exact e)
      · exact .inr (.inl e)
      · by_cases hs : src = 65636
        · refine .inr (.inr (.inr fun y hy ey => ?_))
          have := e y hy
          unfold hitW at this
          rw [decide_eq_true ey, decide_eq_true ((hdst y hy).trans hs.symm)] at this
          cases this
        · exact .inr (.inr (.inl hs))
    · have m := Mv.of_below hb.out K (fun _ => t + 22)
      exact ⟨_, L, [], vw, vd, q, h.to m (fun _ e => e.elim), by simp, m.mono (fun _ e => e.elim)⟩
  · obtain ⟨K', vw', vd', q', P, hq, m⟩ := hh.out
    have hxm : x ∈ L := by rw [hLe]; simp
    have hxx : x.seq = (parseR data).1.xid ∧ x.dst = src := by
      unfold hitW at hx
      simp only [Bool.and_eq_true, decide_eq_true_eq] at hx
      exact hx
    have hs := (h.om.seq_lt hxm).1
    refine ⟨_, he, .inr ⟨rfl, by omega, hd.trans h.hc.ad, hr, hxx.2.symm.trans (hdst x hxm), x, hxm, hxx.1⟩, K', A ++ R, _, vw', vd', q', ⟨P, h.me.mv m (by omega), h.is.mv m (by omega), ?_, h.hc, h.hI, h.hn⟩, by simp, m.mono (fun u e => by omega)⟩
    have om := h.om
    rw [hLe] at om
    exact om.hear rfl rfl
/-- Hear of what comes from elsewhere, or is for another -/
theorem LF.far_any (h : LF K w B t p xb c oa cap next now L [] vw vd q vi I n1 n2) (src dst : Int) (data : List UInt8) (hl : data.length ≤ 281474976710656) (hf : dst ≠ 65537 ∨ src ≠ 65636) :
    Calls Tryz.prog 51 #[ptr p, .agg #[.int .i64 src, .int .i64 dst, .string ⟨data.toArray⟩]] w fun e w' => e = .returned (.int .i64 0) ∧ Hid (∃ K', LF K' w' B t p xb c oa cap next now L [] vw vd q vi I n1 n2 ∧ Mv (fun u => t ≤ u) w w' K K') := by
  have hL := h.om.lenL
  have hI := h.hI
  have hnb := h.hn
  refine (h.pc.hear_any src dst data hl (by omega) (by simp) (fun x hx => ?_)).mono ?_
  · obtain ⟨k, i, a1, a2, a3, a4⟩ := h.om.wt x hx
    have := a3.l0
    have := a3.l1
    omega
  rintro e w' (⟨he, hw, hb⟩ | ⟨A, x, R, he, hd, hr, hLe, hx, hA, hh⟩)
  · have m := Mv.of_below hb.out K (fun _ => t + 22)
    exact ⟨he, _, h.to m (fun _ e => e.elim), m.mono (fun _ e => e.elim)⟩
  · exfalso
    have hxm : x ∈ L := by rw [hLe]; simp
    obtain ⟨k, i, a1, a2, a3, a4⟩ := h.om.wt x hxm
    have hxx : x.dst = src := by
      unfold hitW at hx
      simp only [Bool.and_eq_true, decide_eq_true_eq] at hx
      exact hx.2
    rcases hf with e | e
    · exact e (hd.trans h.hc.ad)
    · exact e (hxx.symm.trans a3.dst)
end
end Go.Proofs.YtfcbjcebkahehaaGreatDoor.Cl
namespace Go.Proofs.YtfcbjcebkahehaaGreatDoor.Cl
open Go.RowKit
def pickV (c n : Int) : Int := (if c < 0 then -(c + 1) else c) % n
theorem pickV_in (c : Int) {n : Int} (hn : 0 < n) : 0 ≤ pickV c n ∧ pickV c n < n := ⟨Int.emod_nonneg _ (by omega), Int.emod_lt_of_pos _ hn⟩
theorem pickv_any (c : Int) (n : Int) (hc : -9223372036854775808 ≤ c ∧ c ≤ 9223372036854775807) (hn : 0 < n) (w : World) : Calls Tryz.prog 10 #[.int .i64 c, .int .i64 n] w fun e w' => e = .returned (.int .i64 (pickV c n)) ∧ w' = w := by
  unfold pickV
  by_cases h : c < 0
  · rw [if_pos h]
    obtain ⟨d, hd⟩ : ∃ d, -(c + 1) = d := ⟨_, rfl⟩
    rw [hd]
    have hd0 : 0 ≤ d := by omega
    go_enter Tryz.func10, Tryz.ntmps10
    go_wp2
    go_ret
    exact ⟨by first | rfl | (rw [← hd]; rfl), rfl⟩
  · rw [if_neg h]
    go_enter Tryz.func10, Tryz.ntmps10
    go_wp2
    go_ret
    exact ⟨rfl, rfl⟩
/-- the reply that a step speaks of -/
def repR (n : Int) : ReplyP := ⟨n, false, nulA, 0, 0, 0, [119, 120, 121, 122], 0, 0⟩
theorem repR_may {n : Int} (h : isW n) : (repR n).may := by
  unfold ReplyP.may
  have e : (repR n).denied = false := rfl
  refine ⟨h, ?_⟩
  rw [if_neg (by rw [e]; decide)]
  exact ⟨(by decide : nulA.may), rfl, rfl, (by decide : (0 : Int) ≤ 0), (by decide : (0 : Int) ≤ 5), .inl ⟨rfl, (by decide : plainB [119, 120, 121, 122]), rfl, rfl⟩⟩
theorem repR_read {n : Int} (h : isW n) : parseR (repR n).lay = (repR n, 0) := parseR_there _ (repR_may h)
theorem repR_print {n : Int} (h : isW n) : prP (repR n) = ((repR n).lay, 0) := by unfold prP prM; rw [if_pos (repR_may h)]
theorem repR_len (n : Int) : (repR n).lay.length ≤ 1000 := by
  have e : (repR n).denied = false := rfl
  have e2 : (repR n).accept = 0 := rfl
  have e3 : (repR n).verf = nulA := rfl
  have e4 : (repR n).results = [119, 120, 121, 122] := rfl
  unfold ReplyP.lay
  rw [if_neg (by rw [e]; decide), if_neg (by rw [e2]; decide), e3, e4]
  simp only [List.length_append, nbL_len]
  decide
theorem bld46r (nn : Int) (w : World) : (Instr.build 46 #[(0, .int .i64 nn), (8, .string ⟨#[119, 120, 121, 122]⟩)]).run Tryz.prog w = .ok (.agg #[.int .i64 nn, .bool false, .int .i64 0, .string ⟨#[]⟩, .int .i64 0, .int .i64 0, .int .i64 0, .int .i64 0, .int .i64 0, .string ⟨#[119, 120, 121, 122]⟩]) w := by kernel_rfl
section
variable {K K' : Nat → Nat} {w w' : World} {B t p xb S S1 S2 : Nat} {c : Cf} {oa : Option Addr} {cap : Nat} {next now : Int} {L : List Wt} {D R : List Oc} {vw vd v : Value} {q : Mq} {vi : Value} {I : List Is} {n1 n2 : Int}
/-- the book beside the boxes of a step -/
structure AC (K : Nat → Nat) (w : World) (B t p xb S1 S2 : Nat) (c : Cf) (oa : Option Addr) (cap : Nat) (next now : Int) (L : List Wt) (vw vd : Value) (q : Mq) (vi : Value) (I : List Is) (n1 n2 kind N : Int) (s : ByteArray) : Prop where
  lf : LF K w B t p xb c oa cap next now L [] vw vd q vi I n1 n2
  a : TB K w (t + 30) S1 (.cells #[.int .i64 kind, .int .i64 N, .string s] 66)
  b : TB K w (t + 30) S2 (.cells #[.int .i64 c.pb, .int .i64 c.pc, .int .i64 c.pt] 23)
theorem AC.to {kind N : Int} {s : ByteArray} {T : Nat → Prop} (h : AC K w B t p xb S1 S2 c oa cap next now L vw vd q vi I n1 n2 kind N s) (m : Mv T w w' K K') (ht : ∀ t', T t' → t + 30 < t') : AC K' w' B t p xb S1 S2 c oa cap next now L vw vd q vi I n1 n2 kind N s :=
  ⟨h.lf.to m (fun t' e => by have := ht t' e; omega), h.a.mv m (fun e => by have := ht _ e; omega), h.b.mv m (fun e => by have := ht _ e; omega)⟩
/-- how a step begins: the boxes, the sequence it speaks of, whether that one waits, the reply -/
structure Beg (w : World) (K : Nat → Nat) (w2 : World) (B t p xb S1 S2 : Nat) (c : Cf) (oa : Option Addr) (cap : Nat) (next now : Int) (L : List Wt) (vw vd : Value) (q : Mq) (vi : Value) (I : List Is) (n1 n2 kind N : Int) (s : ByteArray) (K2 : Nat → Nat) (mI : Nat) (kk : Nat) : Prop where
  ac : AC K2 w2 B t p xb S1 S2 c oa cap next now L vw vd q vi I n1 n2 kind N s
  mv : Mv (fun u => t ≤ u) w w2 K K2
  pk : ∀ m, Calls Tryz.prog 10 #[.int .i64 N, .int .i64 ((mI : Int) + 1)] (w2.drewN m) fun e w' => e = .returned (.int .i64 (kk : Int)) ∧ w' = w2.drewN m
  kle : kk ≤ mI
  of_ : ∀ m, Calls Tryz.prog 48 #[ptr xb, .int .i64 (9 + (kk : Int))] (w2.drewN m) fun e w' => e = .returned (.int .i64 (if kk < mI then (kk : Int) else -1)) ∧ AC K2 w' B t p xb S1 S2 c oa cap next now L vw vd q vi I n1 n2 kind N s ∧ Mv (fun u => t ≤ u) w w' K K2
  pr : ∀ w' K', AC K' w' B t p xb S1 S2 c oa cap next now L vw vd q vi I n1 n2 kind N s → Calls Tryz.prog 49 #[.agg (replyV (repR (9 + (kk : Int)))).toArray] w' fun e w'' => e = .returned (.tuple #[.string ⟨(repR (9 + (kk : Int))).lay.toArray⟩, .int .i64 0]) ∧ Hid (∃ K'', AC K'' w'' B t p xb S1 S2 c oa cap next now L vw vd q vi I n1 n2 kind N s ∧ Mv (fun u => t ≤ u) w' w'' K' K'')
theorem LF.beg (h : LF K w B t p xb c oa cap next now L [] vw vd q vi I n1 n2) (kind N : Int) (s : ByteArray) (hN : -9223372036854775808 ≤ N ∧ N ≤ 9223372036854775807) {w2 : World} {mI : Nat} (hm : I.length = mI)
    (hw2 : (w.alloc (.cells #[.int .i64 kind, .int .i64 N, .string s] 66)).alloc (.cells #[.int .i64 c.pb, .int .i64 c.pc, .int .i64 c.pt] 23) = w2) :
    ∃ K2 kk, Beg w K w2 B t p xb w.heap.size (w.heap.size + 1) c oa cap next now L vw vd q vi I n1 n2 kind N s K2 mI kk := by
  obtain ⟨w1, hw1⟩ : ∃ y, w.alloc (.cells #[.int .i64 kind, .int .i64 N, .string s] 66) = y := ⟨_, rfl⟩
  rw [hw1] at hw2
  have B1 : Below w.heap.size w w1 := by rw [← hw1]; exact (Below.refl _ _).alloc (Nat.le_refl _) _
  have k1 : w1.heap[w.heap.size]? = some (.cells #[.int .i64 kind, .int .i64 N, .string s] 66) := by rw [← hw1]; exact (MapKept.heap_alloc w _).1
  have hz : w1.heap.size = w.heap.size + 1 := by rw [← hw1]; simp
  have B2 : Below w1.heap.size w1 w2 := by rw [← hw2]; exact (Below.refl _ _).alloc (Nat.le_refl _) _
  have k2 : w2.heap[w.heap.size + 1]? = some (.cells #[.int .i64 c.pb, .int .i64 c.pc, .int .i64 c.pt] 23) := by rw [← hw2, ← hz]; exact (MapKept.heap_alloc w1 _).1
  have m1 := Mv.of_below B1 K (fun _ => t + 30)
  have m2 := Mv.of_below B2 (ext w K (fun _ => t + 30)) (fun _ => t + 30)
  obtain ⟨K2, hK2⟩ : ∃ K2, ext w1 (ext w K (fun _ => t + 30)) (fun _ => t + 30) = K2 := ⟨_, rfl⟩
  have e1 : K2 w.heap.size = t + 30 := by rw [← hK2, ext_old (by omega), ext_new (Nat.le_refl _)]
  have e2 : K2 (w.heap.size + 1) = t + 30 := by rw [← hK2, ext_new (by omega)]
  rw [hK2] at m2
  have ac : AC K2 w2 B t p xb w.heap.size (w.heap.size + 1) c oa cap next now L vw vd q vi I n1 n2 kind N s := ⟨(h.to m1 (fun _ e => e.elim)).to m2 (fun _ e => e.elim), ⟨(B2.block _ (by omega)).trans k1, e1⟩, ⟨k2, e2⟩⟩
  have mv : Mv (fun u => t ≤ u) w w2 K K2 := (m1.mono (fun _ e => e.elim)).trans (m2.mono (fun _ e => e.elim))
  have hp := pickV_in N (n := (mI : Int) + 1) (by omega)
  obtain ⟨kk, hkk⟩ : ∃ kk : Nat, pickV N ((mI : Int) + 1) = kk := ⟨(pickV N ((mI : Int) + 1)).toNat, by omega⟩
  have hI := h.hI
  rw [hkk] at hp
  refine ⟨K2, kk, ac, mv, fun m => by rw [← hkk]; exact pickv_any N _ hN (by omega) _, by omega, fun m => ?_, fun w' K' a' => ?_⟩
  · have am := ac.to (mv_drewN w2 K2 m) (fun _ e => e.elim)
    refine (am.lf.of_any (9 + (kk : Int))).mono ?_
    rintro e w' ⟨rfl, rfl⟩
    refine ⟨?_, am, mv.trans ((mv_drewN w2 K2 m).mono (fun _ e => e.elim))⟩
    unfold ofP
    rw [hm]
    by_cases hlt : kk < mI
    · rw [if_pos hlt, if_pos (by omega), show (9 : Int) + kk - 9 = kk by omega]
    · rw [if_neg hlt, if_neg (by omega)]
  · have hw : isW (9 + (kk : Int)) := by unfold isW; omega
    have := printReply_any (repR (9 + (kk : Int))) w' a'.lf.pc.err (by show ([119, 120, 121, 122] : List UInt8).length ≤ _; decide)
    rw [repR_print hw] at this
    refine this.mono ?_
    rintro e w'' ⟨he, hb⟩
    have m := Mv.of_below hb K' (fun _ => t + 31)
    exact ⟨he, _, a'.to m (fun _ e => e.elim), m.mono (fun _ e => e.elim)⟩
end
end Go.Proofs.YtfcbjcebkahehaaGreatDoor.Cl
namespace Go.Proofs.YtfcbjcebkahehaaGreatDoor.Cl
open Go.RowKit
section
variable {K K' : Nat → Nat} {w w' : World} {B t p xb S S1 S2 : Nat} {c : Cf} {oa : Option Addr} {cap : Nat} {next now : Int} {L : List Wt} {D R : List Oc} {vw vd v : Value} {q : Mq} {vi : Value} {I : List Is} {n1 n2 : Int}
set_option maxRecDepth 8000 in
set_option maxHeartbeats 8000000 in
theorem LF.acts_due (h : LF K w B t p xb c oa cap next now L [] vw vd q vi I n1 n2) (N : Int) (s : ByteArray) (hN : -9223372036854775808 ≤ N ∧ N ≤ 9223372036854775807) (hI : I.length + 1 ≤ 50000000) (hn : now + 1 ≤ 100000000) (hs : s.size ≤ 281474976710656) :
    Calls Tryz.prog 15 #[ptr xb, .agg #[.int .i64 1, .int .i64 N, .string s], .agg #[.int .i64 c.pb, .int .i64 c.pc, .int .i64 c.pt], .int .i64 c.win] w fun e w' => e = .returned (.bool true) ∧ Hid (∃ K' next' now' L' D' vw' vd' q' vi' I' n2', LF K' w' B t p xb c oa cap next' now' L' D' vw' vd' q' vi' I' n1 n2' ∧ (I'.length ≤ I.length + 1 ∧ now' ≤ now + 1 ∧ D'.length ≤ 50000000) ∧ Mv (fun u => t ≤ u) w w' K K') := by
  obtain ⟨mI, hmI⟩ : ∃ m, I.length = m := ⟨_, rfl⟩
  obtain ⟨w2, hw2⟩ : ∃ y, (w.alloc (.cells #[.int .i64 1, .int .i64 N, .string s] 66)).alloc (.cells #[.int .i64 c.pb, .int .i64 c.pc, .int .i64 c.pt] 23) = y := ⟨_, rfl⟩
  obtain ⟨K2, kk, BE⟩ := h.beg 1 N s hN hmI hw2
  obtain ⟨S1, hS1⟩ : ∃ y, w.heap.size = y := ⟨_, rfl⟩
  obtain ⟨w1, hw1⟩ : ∃ y, w.alloc (.cells #[.int .i64 1, .int .i64 N, .string s] 66) = y := ⟨_, rfl⟩
  obtain ⟨S2, hS2⟩ : ∃ y, w1.heap.size = y := ⟨_, rfl⟩
  have hS12 : w.heap.size + 1 = S2 := by rw [← hS2, ← hw1]; simp
  rw [hw1] at hw2
  rw [hS12, hS1] at BE
  obtain ⟨oI, cI, evi, _, hgI⟩ := h.is.form
  rw [hmI] at evi
  subst evi
  have a1 : w2.cell? ⟨S1, 1, none⟩ = some (.int .i64 N) := cell_at BE.ac.a.at_ rfl
  have x1 : w2.cell? ⟨xb, 1, none⟩ = some (.slice oI mI cI) := BE.ac.lf.ce0.2.1
  have HPk := hid BE.pk
  have HOf := hid BE.of_
  have HPr := hid BE.pr
  have hkk := BE.kle
  have hmB : (mI : Int) ≤ 50000000 := by omega
  obtain ⟨mj, hmj⟩ : ∃ mj : Int, (mI : Int) + 1 = mj := ⟨_, rfl⟩
  have b1 : -9223372036854775808 ≤ (mI : Int) + 1 ∧ (mI : Int) + 1 ≤ 9223372036854775807 := by omega
  obtain ⟨nn, hnn⟩ : ∃ nn : Int, 9 + (kk : Int) = nn := ⟨_, rfl⟩
  have b2 : -9223372036854775808 ≤ 9 + (kk : Int) ∧ 9 + (kk : Int) ≤ 9223372036854775807 := by omega
  obtain ⟨kv, hkv⟩ : ∃ kv : Int, (if kk < mI then (kk : Int) else -1) = kv := ⟨_, rfl⟩
  have hkvi : Hid ((kk < mI ∧ kv = kk ∧ nn = 9 + kk) ∨ (kk = mI ∧ kv = -1 ∧ nn = 9 + kk)) := by
    rw [← hkv, ← hnn]
    by_cases e : kk < mI
    · exact .inl ⟨e, if_pos e, rfl⟩
    · exact .inr ⟨by omega, if_neg e, rfl⟩
  have hw9 : isW nn := by unfold isW; omega
  obtain ⟨txt, htxt⟩ : ∃ txt : ByteArray, (⟨(repR nn).lay.toArray⟩ : ByteArray) = txt := ⟨_, rfl⟩
  have HT := hid (And.intro htxt (And.intro hw9 (And.intro hmI (And.intro hI (And.intro hn (And.intro hs h))))))
  have HG := hid hgI
  rw [hmj] at HPk
  rw [hkv] at HOf
  have HPr : Hid (∀ w' K', AC K' w' B t p xb S1 S2 c oa cap next now L vw vd q (.slice oI mI cI) I n1 n2 1 N s → Calls Tryz.prog 49 #[.agg #[.int .i64 nn, .bool false, .int .i64 0, .string ⟨#[]⟩, .int .i64 0, .int .i64 0, .int .i64 0, .int .i64 0, .int .i64 0, .string ⟨#[119, 120, 121, 122]⟩]] w' fun e w'' => e = .returned (.tuple #[.string txt, .int .i64 0]) ∧ Hid (∃ K'', AC K'' w'' B t p xb S1 S2 c oa cap next now L vw vd q (.slice oI mI cI) I n1 n2 1 N s ∧ Mv (fun u => t ≤ u) w' w'' K' K'')) := fun w' K' a' => by
    have := HPr.out w' K' a'
    rw [hnn, htxt] at this
    exact this
  rw [hnn] at HOf
  have hb46 := fun nn w => bld46r nn w
  have hr1 : IntKind.i64.wrap ((mI : Int) + 1) = mj := by rw [IntWalk.i64_left, wrap_in b1, hmj]
  have hr1' : wrap64 ((mI : Int) + 1) = mj := by rw [wrap_in b1, hmj]
  have hr2 : IntKind.i64.wrap (9 + (kk : Int)) = nn := by rw [IntWalk.i64_left, wrap_in b2, hnn]
  have hr2' : wrap64 (9 + (kk : Int)) = nn := by rw [wrap_in b2, hnn]
  clear h BE hgI hN hmI hI hn hs hS12 hkk hmB hmj b1 b2 hnn hkv hw9 htxt
  go_enter Tryz.func15, Tryz.ntmps15
  go_wp2_with fail
  go_quiet ((go_at_call 10; exact Calls.quiet_of_same (HPk.out _)))
  go_wp2_with fail
  refine (HOf.out _).mono ?_
  rintro _ w3 ⟨rfl, A3, m3⟩
  clear HPk HOf a1 x1 hr1 hr1' hr2 hr2'
  have x1 : w3.cell? ⟨xb, 1, none⟩ = some (.slice oI mI cI) := A3.lf.ce0.2.1
  have H49 := hid (HPr.out w3 K2 A3)
  have HM3 := hid (And.intro A3 m3)
  clear HPr m3
  rcases hkvi.out with ⟨hlt, rfl, hnk⟩ | ⟨hke, rfl, hnk⟩
  · obtain ⟨gI, rfl⟩ := HG.out (by rw [HT.out.2.2.1]; omega)
    obtain ⟨i, hi⟩ : ∃ i, I[kk]? = some i := ⟨_, List.getElem?_eq_getElem (by rw [HT.out.2.2.1]; omega)⟩
    obtain ⟨ib, hib⟩ : ∃ ib, i.over = ib := ⟨_, rfl⟩
    have y3 : w3.cell? ⟨gI, kk * 4 + 3, none⟩ = some (.bool ib) := by rw [← hib]; exact (A3.lf.is.is4 HT.out.2.2.1 hi).2.2.2
    have hk0 : decide ((0 : Int) ≤ (kk : Int)) = true := decide_eq_true (by omega)
    have hkm : (kk : Int) < (mI : Int) := by omega
    have hkm0 : (0 : Int) ≤ (kk : Int) := by omega
    obtain ⟨wb, hwb⟩ : ∃ wb, (!ib) = wb := ⟨_, rfl⟩
    have HW : Hid (wb = true ↔ ∃ y ∈ L, y.seq = nn) := by
      have hnum := A3.lf.om.num kk i hi
      refine ⟨fun e => ?_, fun ⟨y, hy, ey⟩ => ?_⟩
      · have hf : i.over = false := by rw [hib]; rw [e] at hwb; simpa using hwb
        rcases A3.lf.om.all kk i hi hf with ⟨x, hx, ex⟩ | ⟨d, hd, _⟩
        · exact ⟨x, hx, by omega⟩
        · cases hd
      · obtain ⟨k', i', b1, b2, b3, b4⟩ := A3.lf.om.wt y hy
        obtain ⟨_, e2⟩ := A3.lf.om.same_at b1 hi (by have := b3.seq; omega)
        rw [← hwb, ← hib, ← e2, b2]; rfl
    clear A3 hi hib hlt hnk
    go_wp2_with fail
    refine H49.out.mono ?_
    rintro _ w4 ⟨rfl, H4⟩
    clear H49
    obtain ⟨K4, A4, m4⟩ := H4.out
    have am := HM3.out.2.trans m4
    have a0 : w4.cell? ⟨S1, 0, none⟩ = some (.int .i64 1) := cell_at A4.a.at_ rfl
    have c0 : w4.cell? ⟨S2, 0, none⟩ = some (.int .i64 c.pb) := cell_at A4.b.at_ rfl
    have c1 : w4.cell? ⟨S2, 1, none⟩ = some (.int .i64 c.pc) := cell_at A4.b.at_ rfl
    have c2 : w4.cell? ⟨S2, 2, none⟩ = some (.int .i64 c.pt) := cell_at A4.b.at_ rfl
    have HD := hid A4.lf.due_any
    have HA := hid am
    clear A4 m4 am H4 HM3 HW
    go_wp2_with fail
    refine HD.out.mono ?_
    rintro _ w5 ⟨rfl, H5⟩
    clear HD
    go_wp2
    go_ret
    refine ⟨rfl, ?_⟩
    obtain ⟨K5, I5, n5, L5, e5, m5⟩ := H5.out
    exact ⟨K5, _, _, _, [], _, _, _, _, I5, n5, L5, ⟨by rw [e5]; omega, by omega, by simp⟩, HA.out.trans m5⟩
  · have HW : Hid (false = true ↔ ∃ y ∈ L, y.seq = nn) := by
      refine ⟨fun e => by (cases e), fun ⟨y, hy, ey⟩ => ?_⟩
      have h1 := (A3.lf.om.seq_lt hy).2
      have h2 := A3.lf.om.nxt
      rw [HT.out.2.2.1] at h2
      omega
    clear A3 hke hnk
    go_wp2_with fail
    refine H49.out.mono ?_
    rintro _ w4 ⟨rfl, H4⟩
    clear H49
    obtain ⟨K4, A4, m4⟩ := H4.out
    have am := HM3.out.2.trans m4
    have a0 : w4.cell? ⟨S1, 0, none⟩ = some (.int .i64 1) := cell_at A4.a.at_ rfl
    have c0 : w4.cell? ⟨S2, 0, none⟩ = some (.int .i64 c.pb) := cell_at A4.b.at_ rfl
    have c1 : w4.cell? ⟨S2, 1, none⟩ = some (.int .i64 c.pc) := cell_at A4.b.at_ rfl
    have c2 : w4.cell? ⟨S2, 2, none⟩ = some (.int .i64 c.pt) := cell_at A4.b.at_ rfl
    have HD := hid A4.lf.due_any
    have HA := hid am
    clear A4 m4 am H4 HM3 HW
    go_wp2_with fail
    refine HD.out.mono ?_
    rintro _ w5 ⟨rfl, H5⟩
    clear HD
    go_wp2
    go_ret
    refine ⟨rfl, ?_⟩
    obtain ⟨K5, I5, n5, L5, e5, m5⟩ := H5.out
    exact ⟨K5, _, _, _, [], _, _, _, _, I5, n5, L5, ⟨by rw [e5]; omega, by omega, by simp⟩, HA.out.trans m5⟩
end
end Go.Proofs.YtfcbjcebkahehaaGreatDoor.Cl
namespace Go.Proofs.YtfcbjcebkahehaaGreatDoor.Cl
open Go.RowKit
section
variable {K K' : Nat → Nat} {w w' : World} {B t p xb S S1 S2 : Nat} {c : Cf} {oa : Option Addr} {cap : Nat} {next now : Int} {L : List Wt} {D R : List Oc} {vw vd v : Value} {q : Mq} {vi : Value} {I : List Is} {n1 n2 : Int}
set_option maxRecDepth 8000 in
set_option maxHeartbeats 8000000 in
theorem LF.acts_tick (h : LF K w B t p xb c oa cap next now L [] vw vd q vi I n1 n2) (N : Int) (s : ByteArray) (hN : -9223372036854775808 ≤ N ∧ N ≤ 9223372036854775807) (hI : I.length + 1 ≤ 50000000) (hn : now + 1 ≤ 100000000) (hs : s.size ≤ 281474976710656) (kd : Int) (h0 : (kd == 0) = false) (h1 : (kd == 1) = false) (h3 : (kd == 3) = false) (h4 : (kd == 4) = false) (h5 : (kd == 5) = false) :
    Calls Tryz.prog 15 #[ptr xb, .agg #[.int .i64 kd, .int .i64 N, .string s], .agg #[.int .i64 c.pb, .int .i64 c.pc, .int .i64 c.pt], .int .i64 c.win] w fun e w' => e = .returned (.bool true) ∧ Hid (∃ K' next' now' L' D' vw' vd' q' vi' I' n2', LF K' w' B t p xb c oa cap next' now' L' D' vw' vd' q' vi' I' n1 n2' ∧ (I'.length ≤ I.length + 1 ∧ now' ≤ now + 1 ∧ D'.length ≤ 50000000) ∧ Mv (fun u => t ≤ u) w w' K K') := by
  obtain ⟨mI, hmI⟩ : ∃ m, I.length = m := ⟨_, rfl⟩
  obtain ⟨w2, hw2⟩ : ∃ y, (w.alloc (.cells #[.int .i64 kd, .int .i64 N, .string s] 66)).alloc (.cells #[.int .i64 c.pb, .int .i64 c.pc, .int .i64 c.pt] 23) = y := ⟨_, rfl⟩
  obtain ⟨K2, kk, BE⟩ := h.beg kd N s hN hmI hw2
  obtain ⟨S1, hS1⟩ : ∃ y, w.heap.size = y := ⟨_, rfl⟩
  obtain ⟨w1, hw1⟩ : ∃ y, w.alloc (.cells #[.int .i64 kd, .int .i64 N, .string s] 66) = y := ⟨_, rfl⟩
  obtain ⟨S2, hS2⟩ : ∃ y, w1.heap.size = y := ⟨_, rfl⟩
  have hS12 : w.heap.size + 1 = S2 := by rw [← hS2, ← hw1]; simp
  rw [hw1] at hw2
  rw [hS12, hS1] at BE
  obtain ⟨oI, cI, evi, _, hgI⟩ := h.is.form
  rw [hmI] at evi
  subst evi
  have a1 : w2.cell? ⟨S1, 1, none⟩ = some (.int .i64 N) := cell_at BE.ac.a.at_ rfl
  have x1 : w2.cell? ⟨xb, 1, none⟩ = some (.slice oI mI cI) := BE.ac.lf.ce0.2.1
  have HPk := hid BE.pk
  have HOf := hid BE.of_
  have HPr := hid BE.pr
  have hkk := BE.kle
  have hmB : (mI : Int) ≤ 50000000 := by omega
  obtain ⟨mj, hmj⟩ : ∃ mj : Int, (mI : Int) + 1 = mj := ⟨_, rfl⟩
  have b1 : -9223372036854775808 ≤ (mI : Int) + 1 ∧ (mI : Int) + 1 ≤ 9223372036854775807 := by omega
  obtain ⟨nn, hnn⟩ : ∃ nn : Int, 9 + (kk : Int) = nn := ⟨_, rfl⟩
  have b2 : -9223372036854775808 ≤ 9 + (kk : Int) ∧ 9 + (kk : Int) ≤ 9223372036854775807 := by omega
  obtain ⟨kv, hkv⟩ : ∃ kv : Int, (if kk < mI then (kk : Int) else -1) = kv := ⟨_, rfl⟩
  have hkvi : Hid ((kk < mI ∧ kv = kk ∧ nn = 9 + kk) ∨ (kk = mI ∧ kv = -1 ∧ nn = 9 + kk)) := by
    rw [← hkv, ← hnn]
    by_cases e : kk < mI
    · exact .inl ⟨e, if_pos e, rfl⟩
    · exact .inr ⟨by omega, if_neg e, rfl⟩
  have hw9 : isW nn := by unfold isW; omega
  obtain ⟨txt, htxt⟩ : ∃ txt : ByteArray, (⟨(repR nn).lay.toArray⟩ : ByteArray) = txt := ⟨_, rfl⟩
  have HT := hid (And.intro htxt (And.intro hw9 (And.intro hmI (And.intro hI (And.intro hn (And.intro hs h))))))
  have HG := hid hgI
  rw [hmj] at HPk
  rw [hkv] at HOf
  have HPr : Hid (∀ w' K', AC K' w' B t p xb S1 S2 c oa cap next now L vw vd q (.slice oI mI cI) I n1 n2 kd N s → Calls Tryz.prog 49 #[.agg #[.int .i64 nn, .bool false, .int .i64 0, .string ⟨#[]⟩, .int .i64 0, .int .i64 0, .int .i64 0, .int .i64 0, .int .i64 0, .string ⟨#[119, 120, 121, 122]⟩]] w' fun e w'' => e = .returned (.tuple #[.string txt, .int .i64 0]) ∧ Hid (∃ K'', AC K'' w'' B t p xb S1 S2 c oa cap next now L vw vd q (.slice oI mI cI) I n1 n2 kd N s ∧ Mv (fun u => t ≤ u) w' w'' K' K'')) := fun w' K' a' => by
    have := HPr.out w' K' a'
    rw [hnn, htxt] at this
    exact this
  rw [hnn] at HOf
  have hb46 := fun nn w => bld46r nn w
  have hr1 : IntKind.i64.wrap ((mI : Int) + 1) = mj := by rw [IntWalk.i64_left, wrap_in b1, hmj]
  have hr1' : wrap64 ((mI : Int) + 1) = mj := by rw [wrap_in b1, hmj]
  have hr2 : IntKind.i64.wrap (9 + (kk : Int)) = nn := by rw [IntWalk.i64_left, wrap_in b2, hnn]
  have hr2' : wrap64 (9 + (kk : Int)) = nn := by rw [wrap_in b2, hnn]
  clear h BE hgI hN hmI hI hn hs hS12 hkk hmB hmj b1 b2 hnn hkv hw9 htxt
  go_enter Tryz.func15, Tryz.ntmps15
  go_wp2_with fail
  go_quiet ((go_at_call 10; exact Calls.quiet_of_same (HPk.out _)))
  go_wp2_with fail
  refine (HOf.out _).mono ?_
  rintro _ w3 ⟨rfl, A3, m3⟩
  clear HPk HOf a1 x1 hr1 hr1' hr2 hr2'
  have x1 : w3.cell? ⟨xb, 1, none⟩ = some (.slice oI mI cI) := A3.lf.ce0.2.1
  have H49 := hid (HPr.out w3 K2 A3)
  have HM3 := hid (And.intro A3 m3)
  clear HPr m3
  rcases hkvi.out with ⟨hlt, rfl, hnk⟩ | ⟨hke, rfl, hnk⟩
  · obtain ⟨gI, rfl⟩ := HG.out (by rw [HT.out.2.2.1]; omega)
    obtain ⟨i, hi⟩ : ∃ i, I[kk]? = some i := ⟨_, List.getElem?_eq_getElem (by rw [HT.out.2.2.1]; omega)⟩
    obtain ⟨ib, hib⟩ : ∃ ib, i.over = ib := ⟨_, rfl⟩
    have y3 : w3.cell? ⟨gI, kk * 4 + 3, none⟩ = some (.bool ib) := by rw [← hib]; exact (A3.lf.is.is4 HT.out.2.2.1 hi).2.2.2
    have hk0 : decide ((0 : Int) ≤ (kk : Int)) = true := decide_eq_true (by omega)
    have hkm : (kk : Int) < (mI : Int) := by omega
    have hkm0 : (0 : Int) ≤ (kk : Int) := by omega
    obtain ⟨wb, hwb⟩ : ∃ wb, (!ib) = wb := ⟨_, rfl⟩
    have HW : Hid (wb = true ↔ ∃ y ∈ L, y.seq = nn) := by
      have hnum := A3.lf.om.num kk i hi
      refine ⟨fun e => ?_, fun ⟨y, hy, ey⟩ => ?_⟩
      · have hf : i.over = false := by rw [hib]; rw [e] at hwb; simpa using hwb
        rcases A3.lf.om.all kk i hi hf with ⟨x, hx, ex⟩ | ⟨d, hd, _⟩
        · exact ⟨x, hx, by omega⟩
        · cases hd
      · obtain ⟨k', i', b1, b2, b3, b4⟩ := A3.lf.om.wt y hy
        obtain ⟨_, e2⟩ := A3.lf.om.same_at b1 hi (by have := b3.seq; omega)
        rw [← hwb, ← hib, ← e2, b2]; rfl
    clear A3 hi hib hlt hnk
    go_wp2_with fail
    refine H49.out.mono ?_
    rintro _ w4 ⟨rfl, H4⟩
    clear H49
    obtain ⟨K4, A4, m4⟩ := H4.out
    have am := HM3.out.2.trans m4
    have a0 : w4.cell? ⟨S1, 0, none⟩ = some (.int .i64 kd) := cell_at A4.a.at_ rfl
    have z0 : w4.cell? ⟨xb, 0, none⟩ = some (ptr p) := A4.lf.ce0.1
    have HD := hid (A4.lf.tick_any HT.out.2.2.2.2.1)
    have HA := hid am
    clear A4 m4 am H4 HM3 HW
    go_wp2_with fail
    refine HD.out.mono ?_
    rintro _ w5 ⟨⟨v5, rfl⟩, H5⟩
    clear HD
    go_wp2
    go_ret
    refine ⟨rfl, ?_⟩
    obtain ⟨K5, L5, D5, vw5, vd5, F5, e5, m5⟩ := H5.out
    exact ⟨K5, _, _, L5, D5, vw5, vd5, _, _, I, n2, F5, ⟨by omega, by omega, e5⟩, HA.out.trans m5⟩
  · have HW : Hid (false = true ↔ ∃ y ∈ L, y.seq = nn) := by
      refine ⟨fun e => by (cases e), fun ⟨y, hy, ey⟩ => ?_⟩
      have h1 := (A3.lf.om.seq_lt hy).2
      have h2 := A3.lf.om.nxt
      rw [HT.out.2.2.1] at h2
      omega
    clear A3 hke hnk
    go_wp2_with fail
    refine H49.out.mono ?_
    rintro _ w4 ⟨rfl, H4⟩
    clear H49
    obtain ⟨K4, A4, m4⟩ := H4.out
    have am := HM3.out.2.trans m4
    have a0 : w4.cell? ⟨S1, 0, none⟩ = some (.int .i64 kd) := cell_at A4.a.at_ rfl
    have z0 : w4.cell? ⟨xb, 0, none⟩ = some (ptr p) := A4.lf.ce0.1
    have HD := hid (A4.lf.tick_any HT.out.2.2.2.2.1)
    have HA := hid am
    clear A4 m4 am H4 HM3 HW
    go_wp2_with fail
    refine HD.out.mono ?_
    rintro _ w5 ⟨⟨v5, rfl⟩, H5⟩
    clear HD
    go_wp2
    go_ret
    refine ⟨rfl, ?_⟩
    obtain ⟨K5, L5, D5, vw5, vd5, F5, e5, m5⟩ := H5.out
    exact ⟨K5, _, _, L5, D5, vw5, vd5, _, _, I, n2, F5, ⟨by omega, by omega, e5⟩, HA.out.trans m5⟩
end
end Go.Proofs.YtfcbjcebkahehaaGreatDoor.Cl
namespace Go.Proofs.YtfcbjcebkahehaaGreatDoor.Cl
open Go.RowKit
section
variable {K K' : Nat → Nat} {w w' : World} {B t p xb S S1 S2 : Nat} {c : Cf} {oa : Option Addr} {cap : Nat} {next now : Int} {L : List Wt} {D R : List Oc} {vw vd v : Value} {q : Mq} {vi : Value} {I : List Is} {n1 n2 : Int}
set_option maxRecDepth 8000 in
set_option maxHeartbeats 8000000 in
theorem LF.acts_hear (h : LF K w B t p xb c oa cap next now L [] vw vd q vi I n1 n2) (N : Int) (s : ByteArray) (hN : -9223372036854775808 ≤ N ∧ N ≤ 9223372036854775807) (hI : I.length + 1 ≤ 50000000) (hn : now + 1 ≤ 100000000) (hs : s.size ≤ 281474976710656) :
    Calls Tryz.prog 15 #[ptr xb, .agg #[.int .i64 3, .int .i64 N, .string s], .agg #[.int .i64 c.pb, .int .i64 c.pc, .int .i64 c.pt], .int .i64 c.win] w fun e w' => e = .returned (.bool true) ∧ Hid (∃ K' next' now' L' D' vw' vd' q' vi' I' n2', LF K' w' B t p xb c oa cap next' now' L' D' vw' vd' q' vi' I' n1 n2' ∧ (I'.length ≤ I.length + 1 ∧ now' ≤ now + 1 ∧ D'.length ≤ 50000000) ∧ Mv (fun u => t ≤ u) w w' K K') := by
  obtain ⟨mI, hmI⟩ : ∃ m, I.length = m := ⟨_, rfl⟩
  obtain ⟨w2, hw2⟩ : ∃ y, (w.alloc (.cells #[.int .i64 3, .int .i64 N, .string s] 66)).alloc (.cells #[.int .i64 c.pb, .int .i64 c.pc, .int .i64 c.pt] 23) = y := ⟨_, rfl⟩
  obtain ⟨K2, kk, BE⟩ := h.beg 3 N s hN hmI hw2
  obtain ⟨S1, hS1⟩ : ∃ y, w.heap.size = y := ⟨_, rfl⟩
  obtain ⟨w1, hw1⟩ : ∃ y, w.alloc (.cells #[.int .i64 3, .int .i64 N, .string s] 66) = y := ⟨_, rfl⟩
  obtain ⟨S2, hS2⟩ : ∃ y, w1.heap.size = y := ⟨_, rfl⟩
  have hS12 : w.heap.size + 1 = S2 := by rw [← hS2, ← hw1]; simp
  rw [hw1] at hw2
  rw [hS12, hS1] at BE
  obtain ⟨oI, cI, evi, _, hgI⟩ := h.is.form
  rw [hmI] at evi
  subst evi
  have a1 : w2.cell? ⟨S1, 1, none⟩ = some (.int .i64 N) := cell_at BE.ac.a.at_ rfl
  have x1 : w2.cell? ⟨xb, 1, none⟩ = some (.slice oI mI cI) := BE.ac.lf.ce0.2.1
  have HPk := hid BE.pk
  have HOf := hid BE.of_
  have HPr := hid BE.pr
  have hkk := BE.kle
  have hmB : (mI : Int) ≤ 50000000 := by omega
  obtain ⟨mj, hmj⟩ : ∃ mj : Int, (mI : Int) + 1 = mj := ⟨_, rfl⟩
  have b1 : -9223372036854775808 ≤ (mI : Int) + 1 ∧ (mI : Int) + 1 ≤ 9223372036854775807 := by omega
  obtain ⟨nn, hnn⟩ : ∃ nn : Int, 9 + (kk : Int) = nn := ⟨_, rfl⟩
  have b2 : -9223372036854775808 ≤ 9 + (kk : Int) ∧ 9 + (kk : Int) ≤ 9223372036854775807 := by omega
  obtain ⟨kv, hkv⟩ : ∃ kv : Int, (if kk < mI then (kk : Int) else -1) = kv := ⟨_, rfl⟩
  have hkvi : Hid ((kk < mI ∧ kv = kk ∧ nn = 9 + kk) ∨ (kk = mI ∧ kv = -1 ∧ nn = 9 + kk)) := by
    rw [← hkv, ← hnn]
    by_cases e : kk < mI
    · exact .inl ⟨e, if_pos e, rfl⟩
    · exact .inr ⟨by omega, if_neg e, rfl⟩
  have hw9 : isW nn := by unfold isW; omega
  obtain ⟨txt, htxt⟩ : ∃ txt : ByteArray, (⟨(repR nn).lay.toArray⟩ : ByteArray) = txt := ⟨_, rfl⟩
  have HT := hid (And.intro htxt (And.intro hw9 (And.intro hmI (And.intro hI (And.intro hn (And.intro hs h))))))
  have HG := hid hgI
  rw [hmj] at HPk
  rw [hkv] at HOf
  have HPr : Hid (∀ w' K', AC K' w' B t p xb S1 S2 c oa cap next now L vw vd q (.slice oI mI cI) I n1 n2 3 N s → Calls Tryz.prog 49 #[.agg #[.int .i64 nn, .bool false, .int .i64 0, .string ⟨#[]⟩, .int .i64 0, .int .i64 0, .int .i64 0, .int .i64 0, .int .i64 0, .string ⟨#[119, 120, 121, 122]⟩]] w' fun e w'' => e = .returned (.tuple #[.string txt, .int .i64 0]) ∧ Hid (∃ K'', AC K'' w'' B t p xb S1 S2 c oa cap next now L vw vd q (.slice oI mI cI) I n1 n2 3 N s ∧ Mv (fun u => t ≤ u) w' w'' K' K'')) := fun w' K' a' => by
    have := HPr.out w' K' a'
    rw [hnn, htxt] at this
    exact this
  rw [hnn] at HOf
  have hb46 := fun nn w => bld46r nn w
  have hr1 : IntKind.i64.wrap ((mI : Int) + 1) = mj := by rw [IntWalk.i64_left, wrap_in b1, hmj]
  have hr1' : wrap64 ((mI : Int) + 1) = mj := by rw [wrap_in b1, hmj]
  have hr2 : IntKind.i64.wrap (9 + (kk : Int)) = nn := by rw [IntWalk.i64_left, wrap_in b2, hnn]
  have hr2' : wrap64 (9 + (kk : Int)) = nn := by rw [wrap_in b2, hnn]
  clear h BE hgI hN hmI hI hn hs hS12 hkk hmB hmj b1 b2 hnn hkv hw9 htxt
  go_enter Tryz.func15, Tryz.ntmps15
  go_wp2_with fail
  go_quiet ((go_at_call 10; exact Calls.quiet_of_same (HPk.out _)))
  go_wp2_with fail
  refine (HOf.out _).mono ?_
  rintro _ w3 ⟨rfl, A3, m3⟩
  clear HPk HOf a1 x1 hr1 hr1' hr2 hr2'
  have x1 : w3.cell? ⟨xb, 1, none⟩ = some (.slice oI mI cI) := A3.lf.ce0.2.1
  have H49 := hid (HPr.out w3 K2 A3)
  have HM3 := hid (And.intro A3 m3)
  clear HPr m3
  rcases hkvi.out with ⟨hlt, rfl, hnk⟩ | ⟨hke, rfl, hnk⟩
  · obtain ⟨gI, rfl⟩ := HG.out (by rw [HT.out.2.2.1]; omega)
    obtain ⟨i, hi⟩ : ∃ i, I[kk]? = some i := ⟨_, List.getElem?_eq_getElem (by rw [HT.out.2.2.1]; omega)⟩
    obtain ⟨ib, hib⟩ : ∃ ib, i.over = ib := ⟨_, rfl⟩
    have y3 : w3.cell? ⟨gI, kk * 4 + 3, none⟩ = some (.bool ib) := by rw [← hib]; exact (A3.lf.is.is4 HT.out.2.2.1 hi).2.2.2
    have hk0 : decide ((0 : Int) ≤ (kk : Int)) = true := decide_eq_true (by omega)
    have hkm : (kk : Int) < (mI : Int) := by omega
    have hkm0 : (0 : Int) ≤ (kk : Int) := by omega
    obtain ⟨wb, hwb⟩ : ∃ wb, (!ib) = wb := ⟨_, rfl⟩
    have HW : Hid (wb = true ↔ ∃ y ∈ L, y.seq = nn) := by
      have hnum := A3.lf.om.num kk i hi
      refine ⟨fun e => ?_, fun ⟨y, hy, ey⟩ => ?_⟩
      · have hf : i.over = false := by rw [hib]; rw [e] at hwb; simpa using hwb
        rcases A3.lf.om.all kk i hi hf with ⟨x, hx, ex⟩ | ⟨d, hd, _⟩
        · exact ⟨x, hx, by omega⟩
        · cases hd
      · obtain ⟨k', i', b1, b2, b3, b4⟩ := A3.lf.om.wt y hy
        obtain ⟨_, e2⟩ := A3.lf.om.same_at b1 hi (by have := b3.seq; omega)
        rw [← hwb, ← hib, ← e2, b2]; rfl
    clear A3 hi hib hlt hnk
    go_wp2_with fail
    refine H49.out.mono ?_
    rintro _ w4 ⟨rfl, H4⟩
    clear H49
    obtain ⟨K4, A4, m4⟩ := H4.out
    have am := HM3.out.2.trans m4
    have a0 : w4.cell? ⟨S1, 0, none⟩ = some (.int .i64 3) := cell_at A4.a.at_ rfl
    have z0 : w4.cell? ⟨xb, 0, none⟩ = some (ptr p) := A4.lf.ce0.1
    have HH := A4.lf.hear_any 65636 65537 (repR nn).lay (by have := repR_len nn; omega)
    rw [repR_read HT.out.2.1, HT.out.1] at HH
    have HD := hid HH
    have HA := hid am
    clear A4 m4 am H4 HM3 HH
    go_wp2_with fail
    refine HD.out.mono ?_
    rintro _ w5 ⟨z, rfl, hz, H5⟩
    have HR : Hid (∃ K' next' now5 L' D' vw5 vd' q' vi' I' n2', LF K' w5 B t p xb c oa cap next' now5 L' D' vw5 vd' q' vi' I' n1 n2' ∧ (I'.length ≤ I.length + 1 ∧ now5 ≤ now + 1 ∧ D'.length ≤ 50000000) ∧ Mv (fun u => t ≤ u) w w5 K K') := by
      obtain ⟨K5, L5, D5, vw5, vd5, q5, F5, e5, m5⟩ := H5.out
      exact ⟨K5, _, _, L5, D5, vw5, vd5, q5, _, I, n2, F5, ⟨by omega, by omega, e5⟩, HA.out.trans (m5.mono (fun u e => e.1))⟩
    have hzz : Hid ((wb = true ∧ z = nn) ∨ (wb = false ∧ z = 0)) := by
      have hr : (repR nn).xid = nn := rfl
      rcases hz with ⟨e1, e2⟩ | ⟨e1, _, _, _, _, e2⟩
      · refine .inr ⟨?_, e1⟩
        rcases e2 with e | e | e | e
        · exact absurd rfl e
        · exact absurd rfl e
        · exact absurd rfl e
        · cases hb : wb
          · rfl
          · obtain ⟨y, hy, ey⟩ := HW.out.1 hb
            exact absurd ey (e y hy)
      · exact .inl ⟨HW.out.2 e2, e1⟩
    have hn0 : (nn == 0) = false := by
      have := hkvi.out
      simp
      omega
    clear HD H5 hz HW HA
    rcases hzz.out with ⟨rfl, rfl⟩ | ⟨rfl, rfl⟩
    · clear hzz
      go_wp2
      go_ret
      exact ⟨rfl, HR.out⟩
    · clear hzz
      go_wp2
      go_ret
      exact ⟨rfl, HR.out⟩
  · have HW : Hid (false = true ↔ ∃ y ∈ L, y.seq = nn) := by
      refine ⟨fun e => by (cases e), fun ⟨y, hy, ey⟩ => ?_⟩
      have h1 := (A3.lf.om.seq_lt hy).2
      have h2 := A3.lf.om.nxt
      rw [HT.out.2.2.1] at h2
      omega
    clear A3 hke hnk
    go_wp2_with fail
    refine H49.out.mono ?_
    rintro _ w4 ⟨rfl, H4⟩
    clear H49
    obtain ⟨K4, A4, m4⟩ := H4.out
    have am := HM3.out.2.trans m4
    have a0 : w4.cell? ⟨S1, 0, none⟩ = some (.int .i64 3) := cell_at A4.a.at_ rfl
    have z0 : w4.cell? ⟨xb, 0, none⟩ = some (ptr p) := A4.lf.ce0.1
    have HH := A4.lf.hear_any 65636 65537 (repR nn).lay (by have := repR_len nn; omega)
    rw [repR_read HT.out.2.1, HT.out.1] at HH
    have HD := hid HH
    have HA := hid am
    clear A4 m4 am H4 HM3 HH
    go_wp2_with fail
    refine HD.out.mono ?_
    rintro _ w5 ⟨z, rfl, hz, H5⟩
    have HR : Hid (∃ K' next' now5 L' D' vw5 vd' q' vi' I' n2', LF K' w5 B t p xb c oa cap next' now5 L' D' vw5 vd' q' vi' I' n1 n2' ∧ (I'.length ≤ I.length + 1 ∧ now5 ≤ now + 1 ∧ D'.length ≤ 50000000) ∧ Mv (fun u => t ≤ u) w w5 K K') := by
      obtain ⟨K5, L5, D5, vw5, vd5, q5, F5, e5, m5⟩ := H5.out
      exact ⟨K5, _, _, L5, D5, vw5, vd5, q5, _, I, n2, F5, ⟨by omega, by omega, e5⟩, HA.out.trans (m5.mono (fun u e => e.1))⟩
    have hz0 : Hid (z = 0) := by
      rcases hz with ⟨e1, _⟩ | ⟨_, _, _, _, _, e2⟩
      · exact e1
      · exact absurd (HW.out.2 e2) (by decide)
    clear HD H5 hz HW HA
    obtain rfl := hz0.out
    go_wp2
    go_ret
    exact ⟨rfl, HR.out⟩
end
end Go.Proofs.YtfcbjcebkahehaaGreatDoor.Cl
namespace Go.Proofs.YtfcbjcebkahehaaGreatDoor.Cl
open Go.RowKit
section
variable {K K' : Nat → Nat} {w w' : World} {B t p xb S S1 S2 : Nat} {c : Cf} {oa : Option Addr} {cap : Nat} {next now : Int} {L : List Wt} {D R : List Oc} {vw vd v : Value} {q : Mq} {vi : Value} {I : List Is} {n1 n2 : Int}
set_option maxRecDepth 8000 in
set_option maxHeartbeats 8000000 in
theorem LF.acts_far (h : LF K w B t p xb c oa cap next now L [] vw vd q vi I n1 n2) (N : Int) (s : ByteArray) (hN : -9223372036854775808 ≤ N ∧ N ≤ 9223372036854775807) (hI : I.length + 1 ≤ 50000000) (hn : now + 1 ≤ 100000000) (hs : s.size ≤ 281474976710656) :
    Calls Tryz.prog 15 #[ptr xb, .agg #[.int .i64 4, .int .i64 N, .string s], .agg #[.int .i64 c.pb, .int .i64 c.pc, .int .i64 c.pt], .int .i64 c.win] w fun e w' => e = .returned (.bool true) ∧ Hid (∃ K' next' now' L' D' vw' vd' q' vi' I' n2', LF K' w' B t p xb c oa cap next' now' L' D' vw' vd' q' vi' I' n1 n2' ∧ (I'.length ≤ I.length + 1 ∧ now' ≤ now + 1 ∧ D'.length ≤ 50000000) ∧ Mv (fun u => t ≤ u) w w' K K') := by
  obtain ⟨mI, hmI⟩ : ∃ m, I.length = m := ⟨_, rfl⟩
  obtain ⟨w2, hw2⟩ : ∃ y, (w.alloc (.cells #[.int .i64 4, .int .i64 N, .string s] 66)).alloc (.cells #[.int .i64 c.pb, .int .i64 c.pc, .int .i64 c.pt] 23) = y := ⟨_, rfl⟩
  obtain ⟨K2, kk, BE⟩ := h.beg 4 N s hN hmI hw2
  obtain ⟨S1, hS1⟩ : ∃ y, w.heap.size = y := ⟨_, rfl⟩
  obtain ⟨w1, hw1⟩ : ∃ y, w.alloc (.cells #[.int .i64 4, .int .i64 N, .string s] 66) = y := ⟨_, rfl⟩
  obtain ⟨S2, hS2⟩ : ∃ y, w1.heap.size = y := ⟨_, rfl⟩
  have hS12 : w.heap.size + 1 = S2 := by rw [← hS2, ← hw1]; simp
  rw [hw1] at hw2
  rw [hS12, hS1] at BE
  obtain ⟨oI, cI, evi, _, hgI⟩ := h.is.form
  rw [hmI] at evi
  subst evi
  have a1 : w2.cell? ⟨S1, 1, none⟩ = some (.int .i64 N) := cell_at BE.ac.a.at_ rfl
  have x1 : w2.cell? ⟨xb, 1, none⟩ = some (.slice oI mI cI) := BE.ac.lf.ce0.2.1
  have HPk := hid BE.pk
  have HOf := hid BE.of_
  have HPr := hid BE.pr
  have hkk := BE.kle
  have hmB : (mI : Int) ≤ 50000000 := by omega
  obtain ⟨mj, hmj⟩ : ∃ mj : Int, (mI : Int) + 1 = mj := ⟨_, rfl⟩
  have b1 : -9223372036854775808 ≤ (mI : Int) + 1 ∧ (mI : Int) + 1 ≤ 9223372036854775807 := by omega
  obtain ⟨nn, hnn⟩ : ∃ nn : Int, 9 + (kk : Int) = nn := ⟨_, rfl⟩
  have b2 : -9223372036854775808 ≤ 9 + (kk : Int) ∧ 9 + (kk : Int) ≤ 9223372036854775807 := by omega
  obtain ⟨kv, hkv⟩ : ∃ kv : Int, (if kk < mI then (kk : Int) else -1) = kv := ⟨_, rfl⟩
  have hkvi : Hid ((kk < mI ∧ kv = kk ∧ nn = 9 + kk) ∨ (kk = mI ∧ kv = -1 ∧ nn = 9 + kk)) := by
    rw [← hkv, ← hnn]
    by_cases e : kk < mI
    · exact .inl ⟨e, if_pos e, rfl⟩
    · exact .inr ⟨by omega, if_neg e, rfl⟩
  have hw9 : isW nn := by unfold isW; omega
  obtain ⟨txt, htxt⟩ : ∃ txt : ByteArray, (⟨(repR nn).lay.toArray⟩ : ByteArray) = txt := ⟨_, rfl⟩
  have HT := hid (And.intro htxt (And.intro hw9 (And.intro hmI (And.intro hI (And.intro hn (And.intro hs h))))))
  have HG := hid hgI
  rw [hmj] at HPk
  rw [hkv] at HOf
  have HPr : Hid (∀ w' K', AC K' w' B t p xb S1 S2 c oa cap next now L vw vd q (.slice oI mI cI) I n1 n2 4 N s → Calls Tryz.prog 49 #[.agg #[.int .i64 nn, .bool false, .int .i64 0, .string ⟨#[]⟩, .int .i64 0, .int .i64 0, .int .i64 0, .int .i64 0, .int .i64 0, .string ⟨#[119, 120, 121, 122]⟩]] w' fun e w'' => e = .returned (.tuple #[.string txt, .int .i64 0]) ∧ Hid (∃ K'', AC K'' w'' B t p xb S1 S2 c oa cap next now L vw vd q (.slice oI mI cI) I n1 n2 4 N s ∧ Mv (fun u => t ≤ u) w' w'' K' K'')) := fun w' K' a' => by
    have := HPr.out w' K' a'
    rw [hnn, htxt] at this
    exact this
  rw [hnn] at HOf
  have hb46 := fun nn w => bld46r nn w
  have hr1 : IntKind.i64.wrap ((mI : Int) + 1) = mj := by rw [IntWalk.i64_left, wrap_in b1, hmj]
  have hr1' : wrap64 ((mI : Int) + 1) = mj := by rw [wrap_in b1, hmj]
  have hr2 : IntKind.i64.wrap (9 + (kk : Int)) = nn := by rw [IntWalk.i64_left, wrap_in b2, hnn]
  have hr2' : wrap64 (9 + (kk : Int)) = nn := by rw [wrap_in b2, hnn]
  clear h BE hgI hN hmI hI hn hs hS12 hkk hmB hmj b1 b2 hnn hkv hw9 htxt
  go_enter Tryz.func15, Tryz.ntmps15
  go_wp2_with fail
  go_quiet ((go_at_call 10; exact Calls.quiet_of_same (HPk.out _)))
  go_wp2_with fail
  refine (HOf.out _).mono ?_
  rintro _ w3 ⟨rfl, A3, m3⟩
  clear HPk HOf a1 x1 hr1 hr1' hr2 hr2'
  have x1 : w3.cell? ⟨xb, 1, none⟩ = some (.slice oI mI cI) := A3.lf.ce0.2.1
  have H49 := hid (HPr.out w3 K2 A3)
  have HM3 := hid (And.intro A3 m3)
  clear HPr m3
  rcases hkvi.out with ⟨hlt, rfl, hnk⟩ | ⟨hke, rfl, hnk⟩
  · obtain ⟨gI, rfl⟩ := HG.out (by rw [HT.out.2.2.1]; omega)
    obtain ⟨i, hi⟩ : ∃ i, I[kk]? = some i := ⟨_, List.getElem?_eq_getElem (by rw [HT.out.2.2.1]; omega)⟩
    obtain ⟨ib, hib⟩ : ∃ ib, i.over = ib := ⟨_, rfl⟩
    have y3 : w3.cell? ⟨gI, kk * 4 + 3, none⟩ = some (.bool ib) := by rw [← hib]; exact (A3.lf.is.is4 HT.out.2.2.1 hi).2.2.2
    have hk0 : decide ((0 : Int) ≤ (kk : Int)) = true := decide_eq_true (by omega)
    have hkm : (kk : Int) < (mI : Int) := by omega
    have hkm0 : (0 : Int) ≤ (kk : Int) := by omega
    obtain ⟨wb, hwb⟩ : ∃ wb, (!ib) = wb := ⟨_, rfl⟩
    have HW : Hid (wb = true ↔ ∃ y ∈ L, y.seq = nn) := by
      have hnum := A3.lf.om.num kk i hi
      refine ⟨fun e => ?_, fun ⟨y, hy, ey⟩ => ?_⟩
      · have hf : i.over = false := by rw [hib]; rw [e] at hwb; simpa using hwb
        rcases A3.lf.om.all kk i hi hf with ⟨x, hx, ex⟩ | ⟨d, hd, _⟩
        · exact ⟨x, hx, by omega⟩
        · cases hd
      · obtain ⟨k', i', b1, b2, b3, b4⟩ := A3.lf.om.wt y hy
        obtain ⟨_, e2⟩ := A3.lf.om.same_at b1 hi (by have := b3.seq; omega)
        rw [← hwb, ← hib, ← e2, b2]; rfl
    clear A3 hi hib hlt hnk
    go_wp2_with fail
    refine H49.out.mono ?_
    rintro _ w4 ⟨rfl, H4⟩
    clear H49
    obtain ⟨K4, A4, m4⟩ := H4.out
    have am := HM3.out.2.trans m4
    have a0 : w4.cell? ⟨S1, 0, none⟩ = some (.int .i64 4) := cell_at A4.a.at_ rfl
    have z0 : w4.cell? ⟨xb, 0, none⟩ = some (ptr p) := A4.lf.ce0.1
    have hlen : (repR nn).lay.length ≤ 281474976710656 := by have := repR_len nn; omega
    have HH := A4.lf.far_any 65637 65537 (repR nn).lay hlen (.inr (by decide))
    rw [HT.out.1] at HH
    have HD := hid HH
    have HA := hid am
    have HL := hid hlen
    clear A4 m4 am H4 HM3 HH hlen
    go_wp2_with fail
    refine HD.out.mono ?_
    rintro _ w5 ⟨rfl, H5⟩
    clear HD
    obtain ⟨K5, F5, m5⟩ := H5.out
    have HH := F5.far_any 65636 65538 (repR nn).lay HL.out (.inl (by decide))
    rw [HT.out.1] at HH
    have HD := hid HH
    have z0' : w5.cell? ⟨xb, 0, none⟩ = some (ptr p) := F5.ce0.1
    have HA5 := hid (HA.out.trans m5)
    clear F5 m5 H5 HH HA z0
    go_wp2_with fail
    refine HD.out.mono ?_
    rintro _ w6 ⟨rfl, H6⟩
    clear HD
    go_wp2
    go_ret
    refine ⟨rfl, ?_⟩
    obtain ⟨K6, F6, m6⟩ := H6.out
    exact ⟨K6, _, _, L, [], vw, vd, q, _, I, n2, F6, ⟨by omega, by omega, by simp⟩, HA5.out.trans m6⟩
  · have HW : Hid (false = true ↔ ∃ y ∈ L, y.seq = nn) := by
      refine ⟨fun e => by (cases e), fun ⟨y, hy, ey⟩ => ?_⟩
      have h1 := (A3.lf.om.seq_lt hy).2
      have h2 := A3.lf.om.nxt
      rw [HT.out.2.2.1] at h2
      omega
    clear A3 hke hnk
    go_wp2_with fail
    refine H49.out.mono ?_
    rintro _ w4 ⟨rfl, H4⟩
    clear H49
    obtain ⟨K4, A4, m4⟩ := H4.out
    have am := HM3.out.2.trans m4
    have a0 : w4.cell? ⟨S1, 0, none⟩ = some (.int .i64 4) := cell_at A4.a.at_ rfl
    have z0 : w4.cell? ⟨xb, 0, none⟩ = some (ptr p) := A4.lf.ce0.1
    have hlen : (repR nn).lay.length ≤ 281474976710656 := by have := repR_len nn; omega
    have HH := A4.lf.far_any 65637 65537 (repR nn).lay hlen (.inr (by decide))
    rw [HT.out.1] at HH
    have HD := hid HH
    have HA := hid am
    have HL := hid hlen
    clear A4 m4 am H4 HM3 HH hlen
    go_wp2_with fail
    refine HD.out.mono ?_
    rintro _ w5 ⟨rfl, H5⟩
    clear HD
    obtain ⟨K5, F5, m5⟩ := H5.out
    have HH := F5.far_any 65636 65538 (repR nn).lay HL.out (.inl (by decide))
    rw [HT.out.1] at HH
    have HD := hid HH
    have z0' : w5.cell? ⟨xb, 0, none⟩ = some (ptr p) := F5.ce0.1
    have HA5 := hid (HA.out.trans m5)
    clear F5 m5 H5 HH HA z0
    go_wp2_with fail
    refine HD.out.mono ?_
    rintro _ w6 ⟨rfl, H6⟩
    clear HD
    go_wp2
    go_ret
    refine ⟨rfl, ?_⟩
    obtain ⟨K6, F6, m6⟩ := H6.out
    exact ⟨K6, _, _, L, [], vw, vd, q, _, I, n2, F6, ⟨by omega, by omega, by simp⟩, HA5.out.trans m6⟩
end
end Go.Proofs.YtfcbjcebkahehaaGreatDoor.Cl
