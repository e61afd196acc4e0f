/- ClientOnce: due. -/
import Derived.Test.YtfcbjcebkahehaaGreatDoorZbi
import Derived.Test.YtfcbjcebkahehaaGreatDoorKk
namespace Go.Proofs.YtfcbjcebkahehaaGreatDoor.Cl
open Go.RowKit
section
variable {K K' : Nat → Nat} {w w' : World} {B t p xb S : Nat} {c : Cf} {oa : Option Addr} {cap : Nat} {next now : Int} {L : List Wt} {D R : List Oc} {vw vd v : Value} {q : Mq} {vi : Value} {I : List Is} {n1 n2 : Int}
/-- behind some of the datagrams -/
structure LD (K : Nat → Nat) (w : World) (B t p xb S : Nat) (c : Cf) (oa : Option Addr) (cap : Nat) (next now : Int) (L : List Wt) (vw vd : Value) (q : Mq) (vi : Value) (I : List Is) (n1 sd wt : Int) (v : Value) : Prop where
  pc : PC K w B t p c oa cap next now (dueL c now L) [] vw vd q
  me : TB K w (t + 20) xb (lfB p vi n1 sd)
  is : RW 99 4 isC K w B (t + 21) vi I
  ls : RW 78 3 pkC K w B (t + 50) v (pksL c wt now L)
  bx : TB K w (t + 30) S (.cells #[.int .i64 c.pb, .int .i64 c.pc, .int .i64 c.pt] 23)
theorem LD.to {wt : Int} {T : Nat → Prop} (h : LD K w B t p xb S c oa cap next now L vw vd q vi I n1 n2 wt v) (m : Mv T w w' K K') (ht : ∀ t', T t' → t + 50 < t') : LD K' w' B t p xb S c oa cap next now L vw vd q vi I n1 n2 wt v :=
  ⟨h.pc.to m (fun t' e => by have := ht t' e; omega), h.me.mv m (fun e => by have := ht _ e; omega), h.is.mv m (fun e => by have := ht _ e; omega), h.ls.mv m (fun e => by have := ht _ e; omega), h.bx.mv m (fun e => by have := ht _ e; omega)⟩
set_option maxRecDepth 8000 in
set_option maxHeartbeats 8000000 in
theorem LF.due_any (h : LF K w B t p xb c oa cap next now L [] vw vd q vi I n1 n2) :
    Calls Tryz.prog 50 #[ptr xb, .agg #[.int .i64 c.pb, .int .i64 c.pc, .int .i64 c.pt]] w fun e w' => e = .returned (.bool true) ∧ Hid (∃ K' I' n2', LF K' w' B t p xb c oa cap next now (dueL c now L) [] vw vd q vi I' n1 n2' ∧ I'.length = I.length ∧ Mv (fun u => t ≤ u) w w' K K') := by
  have hc := h.hc
  have hIl := h.hI
  have hnw := h.hn
  have hom := h.om
  obtain ⟨S, hS⟩ : ∃ y, w.heap.size = y := ⟨_, rfl⟩
  obtain ⟨w0, hw0⟩ : ∃ y, w.alloc (.cells #[.int .i64 c.pb, .int .i64 c.pc, .int .i64 c.pt] 23) = y := ⟨_, rfl⟩
  have B0 : Below w.heap.size w w0 := by rw [← hw0]; exact (Below.refl _ _).alloc (Nat.le_refl _) _
  have k0 : w0.heap[S]? = some (.cells #[.int .i64 c.pb, .int .i64 c.pc, .int .i64 c.pt] 23) := by rw [← hw0, ← hS]; exact (MapKept.heap_alloc w _).1
  have m0 := Mv.of_below B0 K (fun _ => t + 30)
  have h0 := h.to m0 (fun _ e => e.elim)
  have hKS : ext w K (fun _ => t + 30) S = t + 30 := ext_new (Nat.le_of_eq hS)
  have tS : TB (ext w K (fun _ => t + 30)) w0 (t + 30) S (.cells #[.int .i64 c.pb, .int .i64 c.pc, .int .i64 c.pt] 23) := ⟨k0, hKS⟩
  generalize ext w K (fun _ => t + 30) = K0 at m0 h0 hKS tS
  obtain ⟨wt, hwt⟩ : ∃ wt, waterL next L = wt := ⟨_, rfl⟩
  have hwat := hom.water hc.w1
  rw [hwt] at hwat
  have hfine : ∀ x ∈ L, x.fine := fun x hx => by
    obtain ⟨k, i, a1, a2, a3, a4⟩ := hom.wt x hx
    exact a3.fine hc (by omega)
  have hLI := hom.lenL
  have HDue : Hid (Calls Tryz.prog 20 #[ptr p] w0 fun e w' => ∃ v, e = .returned v ∧ Hid (∃ K', LD K' w' B t p xb S c oa cap next now L vw vd q vi (bumps I []) n1 n2 wt v ∧ Mv (fun u => t ≤ u) w w' K K')) := by
    refine (h0.pc.due_any (t + 50) (by omega) hfine (by omega)).mono ?_
    rintro e w' ⟨v, rfl, hh⟩
    obtain ⟨K', P', R', m'⟩ := hh.out
    rw [hwt] at R'
    exact ⟨v, rfl, K', ⟨P', h0.me.mv m' (by omega), h0.is.mv m' (by omega), R', tS.mv m' (by omega)⟩, (m0.mono (fun _ e => e.elim)).trans (m'.mono (fun u e => by omega))⟩
  have x0 := h0.ce0.1
  obtain ⟨oI, cI, evi, _, hgI⟩ := h.is.form
  obtain ⟨mI, hmI⟩ : ∃ m, I.length = m := ⟨_, rfl⟩
  rw [hmI] at evi
  subst evi
  have HG := hid hgI
  have hmB : mI ≤ 50000000 := by omega
  have hLB : L.length ≤ 50000000 := by omega
  obtain ⟨xs, hxs⟩ : ∃ xs, L.filter (dueW c now) = xs := ⟨_, rfl⟩
  have hxl : xs.length ≤ 50000000 := by have := List.length_filter_le (dueW c now) L; rw [hxs] at this; omega
  have hpk : (pksL c wt now L).length = xs.length := by unfold pksL; rw [hxs, List.length_map]
  have HN := hid (And.intro hmI (And.intro hmB (And.intro hnw (And.intro hc (And.intro hom (And.intro hwt (And.intro hwat (And.intro hxs (And.intro hxl hpk)))))))))
  have HL := hid hLB
  rw [hmI]
  clear h h0 hgI hIl hnw hc hom m0 tS k0 B0 hKS hmI hwt hwat hfine hLI hxs hxl hpk hmB hLB
  go_enter Tryz.func50, Tryz.ntmps50
  go_wp2_with fail
  refine HDue.out.mono ?_
  rintro _ w1 ⟨v, rfl, HD1⟩
  clear HDue x0
  obtain ⟨n, hn⟩ : ∃ n, xs.length = n := ⟨_, rfl⟩
  obtain ⟨oP, cP, evp, _, hgP⟩ := HD1.out.choose_spec.1.ls.form
  rw [HN.out.2.2.2.2.2.2.2.2.2, hn] at evp hgP
  subst evp
  have HP := hid hgP
  have HNn := hid hn
  clear hgP hn
  go_wp2_with fail
  go_loopw [7, 6] (fun u7 u6 wr => ∃ (j : Nat) (la : Int) (A R : List Wt) (sd : Int), u7 = .int .i64 (j : Int) ∧ u6 = .int .i64 la ∧ j ≤ n ∧ Hid (A.length = j ∧ A ++ R = xs ∧ (∀ x ∈ R, la < x.seq) ∧ (sd = n2 ∨ sd = wt) ∧ ∃ K', LD K' wr B t p xb S c oa cap next now L vw vd q (.slice oI mI cI) (bumps I A) n1 sd wt (.slice oP n cP) ∧ Mv (fun u => t ≤ u) w wr K K')) (fun u7 _ _ => n - (intOf u7).toNat)
  case atStart =>
    refine ⟨0, 0, [], xs, n2, rfl, rfl, by omega, rfl, rfl, fun x hx => ?_, .inl rfl, HD1.out⟩
    have hx' : x ∈ L.filter (dueW c now) := by rw [HN.out.2.2.2.2.2.2.2.1]; exact hx
    have := HN.out.2.2.2.2.1.seq_lt (List.mem_filter.1 hx').1
    omega
  case round =>
    obtain ⟨j, la, A, R, sd, rfl, rfl, hjn, HR⟩ := hrel
    clear HD1
    obtain ⟨wo, hwo⟩ : ∃ yy, yy = wr := ⟨_, rfl⟩
    subst hwo
    obtain ⟨hA, hAR, hla, hsd, K1, E, m1⟩ := HR.out
    have hlen : A.length + R.length = n := by rw [← HNn.out, ← hAR]; simp
    obtain ⟨hmI, hmB, hnw, hc, hom, hwt, hwat, hxs, hxl, hpk⟩ := HN.out
    cases R with
    | nil =>
      have hjn2 : j = n := by simp at hlen; omega
      subst hjn2
      have hAx : A = xs := by rw [← hAR, List.append_nil]
      rw [hAx] at E
      have om2 : OM c now next (bumps I xs) (dueL c now L) [] n1 sd := by
        have o2 := hom.due hc
        rw [hxs] at o2
        rcases hsd with e | e
        · rw [e]; exact o2
        · have := o2.raise2
          rw [waterL_due, hwt] at this
          rw [e]; exact this
      have hfine : ∀ x ∈ dueL c now L, x.fine := fun x hx => by
        obtain ⟨k, i, a1, a2, a3, a4⟩ := om2.wt x hx
        exact a3.fine hc (by omega)
      have hidle := hom.idle hc
      have hsame : dueL c now (dueL c now L) = dueL c now L := by
        have : (dueL c now L).map (fun x => if dueW c now x then givW c now x else x) = (dueL c now L).map id := List.map_congr_left (fun x hx => by rw [hidle x hx]; rfl)
        rw [List.map_id] at this
        exact this
      have hnone : (pksL c (waterL next (dueL c now L)) now (dueL c now L)) = [] := by
        unfold pksL
        rw [List.filter_eq_nil_iff.2 (fun x hx => by rw [hidle x hx]; decide)]
        rfl
      have HDue : Hid (Calls Tryz.prog 20 #[ptr p] wo fun e w' => ∃ o cp, e = .returned (.slice o 0 cp) ∧ Hid (∃ K' I' n2', LF K' w' B t p xb c oa cap next now (dueL c now L) [] vw vd q (.slice oI mI cI) I' n1 n2' ∧ I'.length = mI ∧ Mv (fun u => t ≤ u) w w' K K')) := by
        refine (E.pc.due_any (t + 60) (by omega) hfine (by rw [dueL_len]; have := HL.out; omega)).mono ?_
        rintro e w' ⟨v, rfl, hh⟩
        obtain ⟨K', P', R', m'⟩ := hh.out
        rw [hnone] at R'
        rw [hsame] at P'
        obtain ⟨o, cp, ev, _, _⟩ := R'.form
        refine ⟨o, cp, by rw [ev]; rfl, K', bumps I xs, sd, ⟨P', E.me.mv m' (by omega), E.is.mv m' (by omega), om2, hc, by rw [bumps_len, hmI]; exact hmB, hnw⟩, by rw [bumps_len, hmI], m1.trans (m'.mono (fun u e => by omega))⟩
      have x0 : wo.cell? ⟨xb, 0, none⟩ = some (ptr p) := cell_at E.me.at_ rfl
      clear hA hAR hla hsd E m1 hlen hmI hmB hnw hc hom hwt hwat hxs hxl hpk hAx om2 hfine hidle hsame hnone HR
      go_wp2_with fail
      refine HDue.out.mono ?_
      rintro _ w2 ⟨o, cp, rfl, H2⟩
      clear HDue
      go_wp2
      go_ret
      exact ⟨rfl, H2⟩
    | cons x R =>
      have hj : j < n := by simp at hlen; omega
      have hji : (j : Int) < (n : Int) := by omega
      obtain ⟨gP, rfl⟩ := HP.out (by omega)
      have hxm : x ∈ L ∧ dueW c now x = true := by
        have : x ∈ L.filter (dueW c now) := by rw [hxs, ← hAR]; simp
        exact List.mem_filter.1 this
      obtain ⟨k, i, a1, a2, a3, a4⟩ := hom.wt x hxm.1
      have hnum := hom.num k i a1
      have hxk : x.seq = 9 + k := a3.seq.trans hnum
      have hkI : k < mI := by rw [← hmI]; exact (List.getElem?_eq_some_iff.1 a1).1
      obtain ⟨gI, rfl⟩ := HG.out (by omega)
      have hpw : (A ++ x :: R).Pairwise (fun a b => a.seq < b.seq ∧ a.fin ≤ b.fin) := by
        rw [hAR, ← hxs]; exact hom.srt.sublist List.filter_sublist
      have hbA : (bumps I A)[k]? = some i := by
        rw [bumps_ne A I k (fun y hy => ?_)]
        · exact a1
        · have hyL : y ∈ L := by
            have : y ∈ L.filter (dueW c now) := by rw [hxs, ← hAR]; exact List.mem_append_left _ hy
            exact (List.mem_filter.1 this).1
          have := (srt_apart hpw hy (y := x) (by simp)).1
          have := (hom.seq_lt hyL).1
          omega
      have hbl : (bumps I A).length = mI := by rw [bumps_len]; exact hmI
      have hbn : ∀ (k : Nat) (i : Is), (bumps I A)[k]? = some i → i.seq = 9 + k := by
        have : ∀ (xs : List Wt) (I : List Is), (∀ (k : Nat) (i : Is), I[k]? = some i → i.seq = 9 + k) → ∀ (k : Nat) (i : Is), (bumps I xs)[k]? = some i → i.seq = 9 + k := by
          intro xs
          induction xs with
          | nil => intro I h; exact h
          | cons y xs ih =>
            intro I h
            refine ih (bump1 I y.seq) (fun k i hk => ?_)
            obtain ⟨i0, b1, b2 | b2⟩ := mod_at hk
            · rw [b2.2]; exact h k i0 b1
            · rw [b2.2]; exact h k i0 b1
        exact this A I hom.num
      have hpj : (pksL c wt now L)[j]? = some ⟨c.ad, x.dst, x.data c wt⟩ := by
        unfold pksL
        rw [hxs, ← hAR, List.getElem?_map, List.getElem?_append_right (by omega), hA]
        simp
      have hle := water_le (next := next) hom.srt hxm.1
      rw [hwt] at hle
      obtain ⟨cb, q1, q2, q3, q4⟩ := req_read hc a3 wt (by omega) hle (by omega)
      have hdst := a3.dst
      have had := hc.ad
      have e0 : wo.cell? ⟨gP, j * 3 + 2, none⟩ = some (.string ⟨(x.data c wt).toArray⟩) := E.ls.cell pkL (hpk.trans HNn.out) hpj 2 (by omega)
      obtain ⟨dat, hdat⟩ : ∃ d : ByteArray, (⟨(x.data c wt).toArray⟩ : ByteArray) = d := ⟨_, rfl⟩
      obtain ⟨cbs, hcbs⟩ : ∃ d : ByteArray, (⟨cb.toArray⟩ : ByteArray) = d := ⟨_, rfl⟩
      obtain ⟨vbs, hvbs⟩ : ∃ d : ByteArray, (⟨([] : List UInt8).toArray⟩ : ByteArray) = d := ⟨_, rfl⟩
      obtain ⟨abs, habs⟩ : ∃ d : ByteArray, (⟨([97, 98, 99, 100] : List UInt8).toArray⟩ : ByteArray) = d := ⟨_, rfl⟩
      obtain ⟨mch, hmch⟩ : ∃ d : ByteArray, (⟨c.sys.machine.toArray⟩ : ByteArray) = d := ⟨_, rfl⟩
      have HPa : Hid (Calls Tryz.prog 82 #[.string dat] wo fun e w' => e = .returned (.tuple #[.agg #[.int .i64 x.seq, .int .i64 2, .int .i64 7, .int .i64 1, .int .i64 2, .int .i64 1296126539, .string cbs, .int .i64 0, .string vbs, .string abs], .int .i64 0]) ∧ Below wo.heap.size wo w') := by
        have := parseCall_any (x.data c wt) wo E.pc.err q4
        rw [q1, hdat] at this
        rw [← hcbs, ← hvbs, ← habs]
        exact this
      have HJu : Hid (∀ w2, Below wo.heap.size wo w2 → Calls Tryz.prog 83 #[.agg #[.int .i64 x.seq, .int .i64 2, .int .i64 7, .int .i64 1, .int .i64 2, .int .i64 1296126539, .string cbs, .int .i64 0, .string vbs, .string abs]] w2 fun e w' => ∃ ga gn gc, e = .returned (.tuple #[.agg #[.int .i64 c.inst, .int .i64 x.seq, .int .i64 wt, .int .i64 c.sys.stamp, .string mch, .int .i64 c.sys.user, .int .i64 c.sys.group, .slice ga gn gc], .bool true, .int .i64 0]) ∧ Below w2.heap.size w2 w') := fun w2 hb => by
        have := judge_any x.seq 2 7 1 2 1296126539 0 cb [] abs w2 (E.pc.err.below hb) (by omega)
        rw [q3] at this
        rw [← hcbs, ← hvbs]
        refine this.mono ?_
        rintro e w' ⟨a, cp, he, _, hb⟩
        rw [← hmch]
        exact ⟨a, _, cp, he, hb⟩
      rw [hdat] at e0
      have HO : Hid (∀ w2, Below wo.heap.size wo w2 → Calls Tryz.prog 48 #[ptr xb, .int .i64 x.seq] w2 fun e w' => e = .returned (.int .i64 (k : Int)) ∧ w' = w2) := fun w2 hb => by
        have E2 := E.to (Mv.of_below hb K1 (fun _ => t + 51)) (fun _ e => e.elim)
        have := Cl.of_any E2.me E2.is hbn x.seq (by rw [hbl]; omega)
        have e : ofP (bumps I A).length x.seq = (k : Int) := by
          unfold ofP
          rw [if_pos (by rw [hbl, hxk]; omega), hxk]
          omega
        rwa [e] at this
      have hset : Hid (∀ w2, Below wo.heap.size wo w2 → w2.cell? ⟨xb, 1, none⟩ = some (.slice (some ⟨gI, 0, none⟩) mI cI) ∧ w2.cell? ⟨gI, k * 4 + 2, none⟩ = some (.int .i64 i.sent) ∧ w2.frozen? ⟨gI, k * 4 + 2, none⟩ = false ∧ ∀ w3, w2.setCell ⟨gI, k * 4 + 2, none⟩ (.int .i64 (i.sent + 1)) = w3 → ∃ K3, LD K3 w3 B t p xb S c oa cap next now L vw vd q (.slice (some ⟨gI, 0, none⟩) mI cI) (bumps I (A ++ [x])) n1 sd wt (.slice (some ⟨gP, 0, none⟩) n cP) ∧ Mv (fun u => t ≤ u) w w3 K K3 ∧ ∀ b, wo.heap.size ≤ b → b < w2.heap.size → w3.heap[b]? = w2.heap[b]?) := fun w2 hb => by
        have mz := Mv.of_below hb K1 (fun _ => t + 51)
        have E2 := E.to mz (fun _ e => e.elim)
        obtain ⟨d0, d1, d2, d3⟩ := E2.is.is4 hbl hbA
        refine ⟨cell_at E2.me.at_ rfl, d2, E2.is.frozen _, fun w3 hw3 => ?_⟩
        obtain ⟨r1, r2⟩ := E2.is.isSet hbl hbA (fun i => { i with sent := i.sent + 1 }) 2 (.int .i64 (i.sent + 1)) (by omega) rfl
        rw [hw3] at r1 r2
        refine ⟨_, ⟨E2.pc.to r2 (fun t' e => by omega), E2.me.mv r2 (by omega), ?_, E2.ls.mv r2 (by omega), E2.bx.mv r2 (by omega)⟩, m1.trans ((mz.mono (fun _ e => e.elim)).trans (r2.mono (fun u e => by omega))), fun b hb1 hb2 => r2.kept b hb2 (by rw [ext_new hb1]; omega)⟩
        rw [bumps_snoc]
        have : bump1 (bumps I A) x.seq = (bumps I A).modify k (fun i => { i with sent := i.sent + 1 }) := by
          unfold bump1
          rw [hxk, show ((9 : Int) + k - 9).toNat = k by omega]
        rw [this]
        exact r1
      have hs0 := a3.s0
      have hs1 := a3.s1
      have hs2 := a3.s2
      have ht2 := hc.t2
      have hdl : x.snd < c.pt := by
        have := hxm.2
        unfold dueW dueB at this
        simp only [Bool.and_eq_true, decide_eq_true_eq] at this
        exact this.1
      obtain ⟨sn, hsn⟩ : ∃ sn, i.sent + 1 = sn := ⟨_, rfl⟩
      have hsnb : -9223372036854775808 ≤ i.sent + 1 ∧ i.sent + 1 ≤ 9223372036854775807 := by omega
      have hsw : wrap64 (i.sent + 1) = sn := by rw [wrap_in hsnb, hsn]
      rw [hsn] at hset
      have g1 : decide ((k : Int) < 0) = false := decide_eq_false (by omega)
      have g2 : decide (x.seq ≤ la) = false := decide_eq_false (by have := hla x (by simp); omega)
      have g3 : decide (c.pt < sn) = false := decide_eq_false (by omega)
      have g4 : decide (x.seq < wt) = false := decide_eq_false (by omega)
      have g5 : decide (wt < sd) = false := decide_eq_false (by rcases hsd with e | e <;> omega)
      have hinst := hc.inst
      have hkm : (k : Int) < (mI : Int) := by omega
      have hkm0 : (0 : Int) ≤ (k : Int) := by omega
      have hj0 : (0 : Int) ≤ (j : Int) := by omega
      have hjB : j ≤ 100000000000 := by have := HNn.out; omega
      have HA2 : Hid ((A ++ [x]).length = j + 1 ∧ (A ++ [x]) ++ R = xs ∧ (∀ y ∈ R, x.seq < y.seq)) := ⟨by simp [hA], by simpa using hAR, fun y hy => ((List.pairwise_cons.1 (List.pairwise_append.1 hpw).2.1).1 y hy).1⟩
      have HX : Hid ((bumps I (A ++ [x])).length = mI ∧ (bumps I (A ++ [x]))[k]? = some ⟨i.seq, i.at_, sn, false⟩ ∧ (pksL c wt now L)[j]? = some ⟨65537, 65636, x.data c wt⟩ ∧ (pksL c wt now L).length = n ∧ waterL next (dueL c now L) = wt) := by
        refine ⟨by rw [bumps_len]; exact hmI, ?_, by rw [hpj, had, hdst], by rw [hpk]; exact HNn.out, by rw [waterL_due]; exact hwt⟩
        rw [bumps_snoc]
        unfold bump1
        rw [hxk, show ((9 : Int) + k - 9).toNat = k by omega, mod_is hbA, ← hsn, a2]
      have HJJ := hid hj
      rw [hinst] at HJu
      have hj1 : wrap64 ((j : Int) + 1) = (j : Int) + 1 := wrapS hjB
      clear hjB
      clear hA hAR hla hsd E m1 hlen hmI hmB hnw hc hom hwt hwat hxs hxl hpk HR hxm a1 a2 a3 a4 hnum hkI hpw hbA hbl hbn hpj hle q1 q2 q3 q4 hdst had hdat hcbs hvbs habs hmch hs0 hs1 hs2 ht2 hdl hsn hsnb hjn hj hinst hxk
      go_wp2_with fail
      refine HPa.out.mono ?_
      rintro _ w2 ⟨rfl, hb2⟩
      clear HPa e0
      obtain ⟨S3, hS3⟩ : ∃ y, w2.heap.size = y := ⟨_, rfl⟩
      obtain ⟨y0, hy0⟩ : ∃ y, w2.alloc (.cells #[.int .i64 0, .int .i64 0, .int .i64 0, .int .i64 0, .int .i64 0, .int .i64 0, .string ⟨#[]⟩, .int .i64 0, .string ⟨#[]⟩, .string ⟨#[]⟩] 108) = y := ⟨_, rfl⟩
      have ky0 : y0.heap[S3]? = some (.cells #[.int .i64 0, .int .i64 0, .int .i64 0, .int .i64 0, .int .i64 0, .int .i64 0, .string ⟨#[]⟩, .int .i64 0, .string ⟨#[]⟩, .string ⟨#[]⟩] 108) := by rw [← hy0, ← hS3]; exact (MapKept.heap_alloc w2 _).1
      have By0 : Below w2.heap.size w2 y0 := by rw [← hy0]; exact (Below.refl _ _).alloc (Nat.le_refl _) _
      have hley : w2.heap.size ≤ S3 := by omega
      obtain ⟨y1, hy1⟩ : ∃ y, y0.setCell ⟨S3, 0, none⟩ (.int .i64 x.seq) = y := ⟨_, rfl⟩
      have zy0 : y0.cell? ⟨S3, 0, none⟩ = some (.int .i64 0) := cell_at ky0 rfl
      have fy0 : y0.frozen? ⟨S3, 0, none⟩ = false := frozen_at ky0 0
      have ky1 : y1.heap[S3]? = some (.cells #[.int .i64 x.seq, .int .i64 0, .int .i64 0, .int .i64 0, .int .i64 0, .int .i64 0, .string ⟨#[]⟩, .int .i64 0, .string ⟨#[]⟩, .string ⟨#[]⟩] 108) := by rw [← hy1]; exact set_at ky0 0 _
      have By1 : Below w2.heap.size w2 y1 := by rw [← hy1]; exact below_set By0 hley
      obtain ⟨y2, hy2⟩ : ∃ y, y1.setCell ⟨S3, 1, none⟩ (.int .i64 2) = y := ⟨_, rfl⟩
      have zy1 : y1.cell? ⟨S3, 1, none⟩ = some (.int .i64 0) := cell_at ky1 rfl
      have fy1 : y1.frozen? ⟨S3, 1, none⟩ = false := frozen_at ky1 1
      have ky2 : y2.heap[S3]? = some (.cells #[.int .i64 x.seq, .int .i64 2, .int .i64 0, .int .i64 0, .int .i64 0, .int .i64 0, .string ⟨#[]⟩, .int .i64 0, .string ⟨#[]⟩, .string ⟨#[]⟩] 108) := by rw [← hy2]; exact set_at ky1 1 _
      have By2 : Below w2.heap.size w2 y2 := by rw [← hy2]; exact below_set By1 hley
      clear ky1 By1
      obtain ⟨y3, hy3⟩ : ∃ y, y2.setCell ⟨S3, 2, none⟩ (.int .i64 7) = y := ⟨_, rfl⟩
      have zy2 : y2.cell? ⟨S3, 2, none⟩ = some (.int .i64 0) := cell_at ky2 rfl
      have fy2 : y2.frozen? ⟨S3, 2, none⟩ = false := frozen_at ky2 2
      have ky3 : y3.heap[S3]? = some (.cells #[.int .i64 x.seq, .int .i64 2, .int .i64 7, .int .i64 0, .int .i64 0, .int .i64 0, .string ⟨#[]⟩, .int .i64 0, .string ⟨#[]⟩, .string ⟨#[]⟩] 108) := by rw [← hy3]; exact set_at ky2 2 _
      have By3 : Below w2.heap.size w2 y3 := by rw [← hy3]; exact below_set By2 hley
      clear ky2 By2
      obtain ⟨y4, hy4⟩ : ∃ y, y3.setCell ⟨S3, 3, none⟩ (.int .i64 1) = y := ⟨_, rfl⟩
      have zy3 : y3.cell? ⟨S3, 3, none⟩ = some (.int .i64 0) := cell_at ky3 rfl
      have fy3 : y3.frozen? ⟨S3, 3, none⟩ = false := frozen_at ky3 3
      have ky4 : y4.heap[S3]? = some (.cells #[.int .i64 x.seq, .int .i64 2, .int .i64 7, .int .i64 1, .int .i64 0, .int .i64 0, .string ⟨#[]⟩, .int .i64 0, .string ⟨#[]⟩, .string ⟨#[]⟩] 108) := by rw [← hy4]; exact set_at ky3 3 _
      have By4 : Below w2.heap.size w2 y4 := by rw [← hy4]; exact below_set By3 hley
      clear ky3 By3
      obtain ⟨y5, hy5⟩ : ∃ y, y4.setCell ⟨S3, 4, none⟩ (.int .i64 2) = y := ⟨_, rfl⟩
      have zy4 : y4.cell? ⟨S3, 4, none⟩ = some (.int .i64 0) := cell_at ky4 rfl
      have fy4 : y4.frozen? ⟨S3, 4, none⟩ = false := frozen_at ky4 4
      have ky5 : y5.heap[S3]? = some (.cells #[.int .i64 x.seq, .int .i64 2, .int .i64 7, .int .i64 1, .int .i64 2, .int .i64 0, .string ⟨#[]⟩, .int .i64 0, .string ⟨#[]⟩, .string ⟨#[]⟩] 108) := by rw [← hy5]; exact set_at ky4 4 _
      have By5 : Below w2.heap.size w2 y5 := by rw [← hy5]; exact below_set By4 hley
      clear ky4 By4
      obtain ⟨y6, hy6⟩ : ∃ y, y5.setCell ⟨S3, 5, none⟩ (.int .i64 1296126539) = y := ⟨_, rfl⟩
      have zy5 : y5.cell? ⟨S3, 5, none⟩ = some (.int .i64 0) := cell_at ky5 rfl
      have fy5 : y5.frozen? ⟨S3, 5, none⟩ = false := frozen_at ky5 5
      have ky6 : y6.heap[S3]? = some (.cells #[.int .i64 x.seq, .int .i64 2, .int .i64 7, .int .i64 1, .int .i64 2, .int .i64 1296126539, .string ⟨#[]⟩, .int .i64 0, .string ⟨#[]⟩, .string ⟨#[]⟩] 108) := by rw [← hy6]; exact set_at ky5 5 _
      have By6 : Below w2.heap.size w2 y6 := by rw [← hy6]; exact below_set By5 hley
      clear ky5 By5
      obtain ⟨y7, hy7⟩ : ∃ y, y6.setCell ⟨S3, 6, none⟩ (.string cbs) = y := ⟨_, rfl⟩
      have zy6 : y6.cell? ⟨S3, 6, none⟩ = some (.string ⟨#[]⟩) := cell_at ky6 rfl
      have fy6 : y6.frozen? ⟨S3, 6, none⟩ = false := frozen_at ky6 6
      have ky7 : y7.heap[S3]? = some (.cells #[.int .i64 x.seq, .int .i64 2, .int .i64 7, .int .i64 1, .int .i64 2, .int .i64 1296126539, .string cbs, .int .i64 0, .string ⟨#[]⟩, .string ⟨#[]⟩] 108) := by rw [← hy7]; exact set_at ky6 6 _
      have By7 : Below w2.heap.size w2 y7 := by rw [← hy7]; exact below_set By6 hley
      clear ky6 By6
      obtain ⟨y8, hy8⟩ : ∃ y, y7.setCell ⟨S3, 7, none⟩ (.int .i64 0) = y := ⟨_, rfl⟩
      have zy7 : y7.cell? ⟨S3, 7, none⟩ = some (.int .i64 0) := cell_at ky7 rfl
      have fy7 : y7.frozen? ⟨S3, 7, none⟩ = false := frozen_at ky7 7
      have ky8 : y8.heap[S3]? = some (.cells #[.int .i64 x.seq, .int .i64 2, .int .i64 7, .int .i64 1, .int .i64 2, .int .i64 1296126539, .string cbs, .int .i64 0, .string ⟨#[]⟩, .string ⟨#[]⟩] 108) := by rw [← hy8]; exact set_at ky7 7 _
      have By8 : Below w2.heap.size w2 y8 := by rw [← hy8]; exact below_set By7 hley
      clear ky7 By7
      obtain ⟨y9, hy9⟩ : ∃ y, y8.setCell ⟨S3, 8, none⟩ (.string vbs) = y := ⟨_, rfl⟩
      have zy8 : y8.cell? ⟨S3, 8, none⟩ = some (.string ⟨#[]⟩) := cell_at ky8 rfl
      have fy8 : y8.frozen? ⟨S3, 8, none⟩ = false := frozen_at ky8 8
      have ky9 : y9.heap[S3]? = some (.cells #[.int .i64 x.seq, .int .i64 2, .int .i64 7, .int .i64 1, .int .i64 2, .int .i64 1296126539, .string cbs, .int .i64 0, .string vbs, .string ⟨#[]⟩] 108) := by rw [← hy9]; exact set_at ky8 8 _
      have By9 : Below w2.heap.size w2 y9 := by rw [← hy9]; exact below_set By8 hley
      clear ky8 By8
      obtain ⟨w3, hw3⟩ : ∃ y, y9.setCell ⟨S3, 9, none⟩ (.string abs) = y := ⟨_, rfl⟩
      have zy9 : y9.cell? ⟨S3, 9, none⟩ = some (.string ⟨#[]⟩) := cell_at ky9 rfl
      have fy9 : y9.frozen? ⟨S3, 9, none⟩ = false := frozen_at ky9 9
      have kw3 : w3.heap[S3]? = some (.cells #[.int .i64 x.seq, .int .i64 2, .int .i64 7, .int .i64 1, .int .i64 2, .int .i64 1296126539, .string cbs, .int .i64 0, .string vbs, .string abs] 108) := by rw [← hw3]; exact set_at ky9 9 _
      have Bw3 : Below w2.heap.size w2 w3 := by rw [← hw3]; exact below_set By9 hley
      clear ky9 By9
      clear ky0 By0 hley
      have hB3 : Below wo.heap.size wo w3 := hb2.trans (Bw3.mono hb2.size)
      have J3 := hid (HJu.out w3 hB3)
      have c0 : w3.cell? ⟨S3, 0, none⟩ = some (.int .i64 x.seq) := cell_at kw3 rfl
      have c1 : w3.cell? ⟨S3, 1, none⟩ = some (.int .i64 2) := cell_at kw3 rfl
      have c2 : w3.cell? ⟨S3, 2, none⟩ = some (.int .i64 7) := cell_at kw3 rfl
      have c3 : w3.cell? ⟨S3, 3, none⟩ = some (.int .i64 1) := cell_at kw3 rfl
      have c4 : w3.cell? ⟨S3, 4, none⟩ = some (.int .i64 2) := cell_at kw3 rfl
      have c5 : w3.cell? ⟨S3, 5, none⟩ = some (.int .i64 1296126539) := cell_at kw3 rfl
      have c6 : w3.cell? ⟨S3, 6, none⟩ = some (.string cbs) := cell_at kw3 rfl
      have c7 : w3.cell? ⟨S3, 7, none⟩ = some (.int .i64 0) := cell_at kw3 rfl
      have c8 : w3.cell? ⟨S3, 8, none⟩ = some (.string vbs) := cell_at kw3 rfl
      have c9 : w3.cell? ⟨S3, 9, none⟩ = some (.string abs) := cell_at kw3 rfl
      have HK3 := hid (And.intro kw3 (And.intro hB3 (show wo.heap.size ≤ S3 by have := hb2.size; omega)))
      clear kw3 Bw3 hb2 hB3 HJu
      go_wp2_with fail
      clear hy0 zy0 fy0 hy1 zy1 fy1 hy2 zy2 fy2 hy3 zy3 fy3 hy4 zy4 fy4 hy5 zy5 fy5 hy6 zy6 fy6 hy7 zy7 fy7 hy8 zy8 fy8 hy9 zy9 fy9 hw3 hS3
      refine J3.out.mono ?_
      rintro _ w4 ⟨ga, gn, gc, rfl, hb4⟩
      clear J3
      obtain ⟨S5, hS5⟩ : ∃ y, w4.heap.size = y := ⟨_, rfl⟩
      obtain ⟨v0, hv0⟩ : ∃ y, w4.alloc (.cells #[.int .i64 0, .int .i64 0, .int .i64 0, .int .i64 0, .string ⟨#[]⟩, .int .i64 0, .int .i64 0, .slice none 0 0] 131) = y := ⟨_, rfl⟩
      have kv0 : v0.heap[S5]? = some (.cells #[.int .i64 0, .int .i64 0, .int .i64 0, .int .i64 0, .string ⟨#[]⟩, .int .i64 0, .int .i64 0, .slice none 0 0] 131) := by rw [← hv0, ← hS5]; exact (MapKept.heap_alloc w4 _).1
      have Bv0 : Below w4.heap.size w4 v0 := by rw [← hv0]; exact (Below.refl _ _).alloc (Nat.le_refl _) _
      have hlev : w4.heap.size ≤ S5 := by omega
      obtain ⟨v1, hv1⟩ : ∃ y, v0.setCell ⟨S5, 0, none⟩ (.int .i64 5) = y := ⟨_, rfl⟩
      have zv0 : v0.cell? ⟨S5, 0, none⟩ = some (.int .i64 0) := cell_at kv0 rfl
      have fv0 : v0.frozen? ⟨S5, 0, none⟩ = false := frozen_at kv0 0
      have kv1 : v1.heap[S5]? = some (.cells #[.int .i64 5, .int .i64 0, .int .i64 0, .int .i64 0, .string ⟨#[]⟩, .int .i64 0, .int .i64 0, .slice none 0 0] 131) := by rw [← hv1]; exact set_at kv0 0 _
      have Bv1 : Below w4.heap.size w4 v1 := by rw [← hv1]; exact below_set Bv0 hlev
      obtain ⟨v2, hv2⟩ : ∃ y, v1.setCell ⟨S5, 1, none⟩ (.int .i64 x.seq) = y := ⟨_, rfl⟩
      have zv1 : v1.cell? ⟨S5, 1, none⟩ = some (.int .i64 0) := cell_at kv1 rfl
      have fv1 : v1.frozen? ⟨S5, 1, none⟩ = false := frozen_at kv1 1
      have kv2 : v2.heap[S5]? = some (.cells #[.int .i64 5, .int .i64 x.seq, .int .i64 0, .int .i64 0, .string ⟨#[]⟩, .int .i64 0, .int .i64 0, .slice none 0 0] 131) := by rw [← hv2]; exact set_at kv1 1 _
      have Bv2 : Below w4.heap.size w4 v2 := by rw [← hv2]; exact below_set Bv1 hlev
      clear kv1 Bv1
      obtain ⟨v3, hv3⟩ : ∃ y, v2.setCell ⟨S5, 2, none⟩ (.int .i64 wt) = y := ⟨_, rfl⟩
      have zv2 : v2.cell? ⟨S5, 2, none⟩ = some (.int .i64 0) := cell_at kv2 rfl
      have fv2 : v2.frozen? ⟨S5, 2, none⟩ = false := frozen_at kv2 2
      have kv3 : v3.heap[S5]? = some (.cells #[.int .i64 5, .int .i64 x.seq, .int .i64 wt, .int .i64 0, .string ⟨#[]⟩, .int .i64 0, .int .i64 0, .slice none 0 0] 131) := by rw [← hv3]; exact set_at kv2 2 _
      have Bv3 : Below w4.heap.size w4 v3 := by rw [← hv3]; exact below_set Bv2 hlev
      clear kv2 Bv2
      obtain ⟨v4, hv4⟩ : ∃ y, v3.setCell ⟨S5, 3, none⟩ (.int .i64 c.sys.stamp) = y := ⟨_, rfl⟩
      have zv3 : v3.cell? ⟨S5, 3, none⟩ = some (.int .i64 0) := cell_at kv3 rfl
      have fv3 : v3.frozen? ⟨S5, 3, none⟩ = false := frozen_at kv3 3
      have kv4 : v4.heap[S5]? = some (.cells #[.int .i64 5, .int .i64 x.seq, .int .i64 wt, .int .i64 c.sys.stamp, .string ⟨#[]⟩, .int .i64 0, .int .i64 0, .slice none 0 0] 131) := by rw [← hv4]; exact set_at kv3 3 _
      have Bv4 : Below w4.heap.size w4 v4 := by rw [← hv4]; exact below_set Bv3 hlev
      clear kv3 Bv3
      obtain ⟨v5, hv5⟩ : ∃ y, v4.setCell ⟨S5, 4, none⟩ (.string mch) = y := ⟨_, rfl⟩
      have zv4 : v4.cell? ⟨S5, 4, none⟩ = some (.string ⟨#[]⟩) := cell_at kv4 rfl
      have fv4 : v4.frozen? ⟨S5, 4, none⟩ = false := frozen_at kv4 4
      have kv5 : v5.heap[S5]? = some (.cells #[.int .i64 5, .int .i64 x.seq, .int .i64 wt, .int .i64 c.sys.stamp, .string mch, .int .i64 0, .int .i64 0, .slice none 0 0] 131) := by rw [← hv5]; exact set_at kv4 4 _
      have Bv5 : Below w4.heap.size w4 v5 := by rw [← hv5]; exact below_set Bv4 hlev
      clear kv4 Bv4
      obtain ⟨v6, hv6⟩ : ∃ y, v5.setCell ⟨S5, 5, none⟩ (.int .i64 c.sys.user) = y := ⟨_, rfl⟩
      have zv5 : v5.cell? ⟨S5, 5, none⟩ = some (.int .i64 0) := cell_at kv5 rfl
      have fv5 : v5.frozen? ⟨S5, 5, none⟩ = false := frozen_at kv5 5
      have kv6 : v6.heap[S5]? = some (.cells #[.int .i64 5, .int .i64 x.seq, .int .i64 wt, .int .i64 c.sys.stamp, .string mch, .int .i64 c.sys.user, .int .i64 0, .slice none 0 0] 131) := by rw [← hv6]; exact set_at kv5 5 _
      have Bv6 : Below w4.heap.size w4 v6 := by rw [← hv6]; exact below_set Bv5 hlev
      clear kv5 Bv5
      obtain ⟨v7, hv7⟩ : ∃ y, v6.setCell ⟨S5, 6, none⟩ (.int .i64 c.sys.group) = y := ⟨_, rfl⟩
      have zv6 : v6.cell? ⟨S5, 6, none⟩ = some (.int .i64 0) := cell_at kv6 rfl
      have fv6 : v6.frozen? ⟨S5, 6, none⟩ = false := frozen_at kv6 6
      have kv7 : v7.heap[S5]? = some (.cells #[.int .i64 5, .int .i64 x.seq, .int .i64 wt, .int .i64 c.sys.stamp, .string mch, .int .i64 c.sys.user, .int .i64 c.sys.group, .slice none 0 0] 131) := by rw [← hv7]; exact set_at kv6 6 _
      have Bv7 : Below w4.heap.size w4 v7 := by rw [← hv7]; exact below_set Bv6 hlev
      clear kv6 Bv6
      obtain ⟨w5, hw5⟩ : ∃ y, v7.setCell ⟨S5, 7, none⟩ (.slice ga gn gc) = y := ⟨_, rfl⟩
      have zv7 : v7.cell? ⟨S5, 7, none⟩ = some (.slice none 0 0) := cell_at kv7 rfl
      have fv7 : v7.frozen? ⟨S5, 7, none⟩ = false := frozen_at kv7 7
      have kw5 : w5.heap[S5]? = some (.cells #[.int .i64 5, .int .i64 x.seq, .int .i64 wt, .int .i64 c.sys.stamp, .string mch, .int .i64 c.sys.user, .int .i64 c.sys.group, .slice ga gn gc] 131) := by rw [← hw5]; exact set_at kv7 7 _
      have Bw5 : Below w4.heap.size w4 w5 := by rw [← hw5]; exact below_set Bv7 hlev
      clear kv7 Bv7
      clear kv0 Bv0 hlev
      have hl3 : S3 < w3.heap.size := (Array.getElem?_eq_some_iff.1 HK3.out.1).1
      have hB5 : Below w3.heap.size w3 w5 := hb4.trans (Bw5.mono hb4.size)
      have hBo5 : Below wo.heap.size wo w5 := HK3.out.2.1.trans (hB5.mono HK3.out.2.1.size)
      have k3' : w5.heap[S3]? = some (.cells #[.int .i64 x.seq, .int .i64 2, .int .i64 7, .int .i64 1, .int .i64 2, .int .i64 1296126539, .string cbs, .int .i64 0, .string vbs, .string abs] 108) := (hB5.block S3 hl3).trans HK3.out.1
      have hl3' : S3 < w5.heap.size := (Array.getElem?_eq_some_iff.1 k3').1
      have hl5' : S5 < w5.heap.size := (Array.getElem?_eq_some_iff.1 kw5).1
      have hle5 : wo.heap.size ≤ S5 := by have := HK3.out.2.1.size; have := hb4.size; omega
      have O5 := hid (HO.out w5 hBo5)
      obtain ⟨y1, y2, y3, hs3⟩ := hset.out w5 hBo5
      obtain ⟨w6, hw6⟩ : ∃ w6, w5.setCell ⟨gI, k * 4 + 2, none⟩ (.int .i64 sn) = w6 := ⟨_, rfl⟩
      obtain ⟨K6, E6, m6, hkeep⟩ := hs3 w6 hw6
      have k36 : w6.heap[S3]? = some (.cells #[.int .i64 x.seq, .int .i64 2, .int .i64 7, .int .i64 1, .int .i64 2, .int .i64 1296126539, .string cbs, .int .i64 0, .string vbs, .string abs] 108) := (hkeep S3 HK3.out.2.2 hl3').trans k3'
      have k56 : w6.heap[S5]? = some (.cells #[.int .i64 5, .int .i64 x.seq, .int .i64 wt, .int .i64 c.sys.stamp, .string mch, .int .i64 c.sys.user, .int .i64 c.sys.group, .slice ga gn gc] 131) := (hkeep S5 hle5 hl5').trans kw5
      have b0 : w5.cell? ⟨S3, 0, none⟩ = some (.int .i64 x.seq) := cell_at k3' rfl
      have b1 : w5.cell? ⟨S5, 0, none⟩ = some (.int .i64 5) := cell_at kw5 rfl
      have b2 : w5.cell? ⟨S5, 1, none⟩ = some (.int .i64 x.seq) := cell_at kw5 rfl
      obtain ⟨Z, f, hf1, hf2⟩ : ∃ (Z : Type) (f : Z → World), (∀ z, Below w6.heap.size w6 (f z)) ∧ ∀ w', Below w6.heap.size w6 w' → ∃ z, w' = f z := ⟨{ w' // Below w6.heap.size w6 w' }, Subtype.val, fun z => z.2, fun w' h => ⟨⟨w', h⟩, rfl⟩⟩
      have hE : ∀ z, LD (ext w6 K6 (fun _ => t + 51)) (f z) B t p xb S c oa cap next now L vw vd q (.slice (some ⟨gI, 0, none⟩) mI cI) (bumps I (A ++ [x])) n1 sd wt (.slice (some ⟨gP, 0, none⟩) n cP) := fun z => E6.to (Mv.of_below (hf1 z) K6 _) (fun _ e => e.elim)
      have z0 : ∀ z, (f z).cell? ⟨xb, 0, none⟩ = some (ptr p) := fun z => cell_at (hE z).me.at_ rfl
      have z1 : ∀ z, (f z).cell? ⟨xb, 1, none⟩ = some (.slice (some ⟨gI, 0, none⟩) mI cI) := fun z => cell_at (hE z).me.at_ rfl
      have z2 : ∀ z, (f z).cell? ⟨gI, k * 4 + 2, none⟩ = some (.int .i64 sn) := fun z => ((hE z).is.is4 HX.out.1 HX.out.2.1).2.2.1
      have z3 : ∀ z, (f z).cell? ⟨gI, k * 4 + 3, none⟩ = some (.bool false) := fun z => ((hE z).is.is4 HX.out.1 HX.out.2.1).2.2.2
      have z4 : ∀ z, (f z).cell? ⟨S, 2, none⟩ = some (.int .i64 c.pt) := fun z => cell_at (hE z).bx.at_ rfl
      have z5 : ∀ z, (f z).cell? ⟨S5, 2, none⟩ = some (.int .i64 wt) := fun z => cell_at (((hf1 z).block S5 (Array.getElem?_eq_some_iff.1 k56).1).trans k56) rfl
      have z6 : ∀ z, (f z).cell? ⟨S5, 1, none⟩ = some (.int .i64 x.seq) := fun z => cell_at (((hf1 z).block S5 (Array.getElem?_eq_some_iff.1 k56).1).trans k56) rfl
      have z7 : ∀ z, (f z).cell? ⟨xb, 3, none⟩ = some (.int .i64 sd) := fun z => cell_at (hE z).me.at_ rfl
      have z8 : ∀ z, (f z).cell? ⟨gP, j * 3, none⟩ = some (.int .i64 65537) := fun z => (hE z).ls.cell pkL HX.out.2.2.2.1 HX.out.2.2.1 0 (by omega)
      have z9 : ∀ z, (f z).cell? ⟨gP, j * 3 + 1, none⟩ = some (.int .i64 65636) := fun z => (hE z).ls.cell pkL HX.out.2.2.2.1 HX.out.2.2.1 1 (by omega)
      have HWt : Hid (∀ z, Calls Tryz.prog 23 #[ptr p] (f z) fun e w' => e = .returned (.int .i64 wt) ∧ ∃ z', w' = f z') := fun z => by
        refine (hE z).pc.water_any.mono ?_
        rintro e w' ⟨rfl, rfl⟩
        exact ⟨by rw [HX.out.2.2.2.2], z, rfl⟩
      have HZ0 : Hid (∃ z, w6.drew = f z) := hf2 _ (Below.refl _ _).drew
      have HF : Hid (∀ z, (f z).frozen? ⟨xb, 3, none⟩ = false ∧ ∀ w7, (f z).setCell ⟨xb, 3, none⟩ (.int .i64 wt) = w7 → Hid ((A ++ [x]).length = j + 1 ∧ (A ++ [x]) ++ R = xs ∧ (∀ y ∈ R, x.seq < y.seq) ∧ (wt = n2 ∨ wt = wt) ∧ ∃ K', LD K' w7 B t p xb S c oa cap next now L vw vd q (.slice (some ⟨gI, 0, none⟩) mI cI) (bumps I (A ++ [x])) n1 wt wt (.slice (some ⟨gP, 0, none⟩) n cP) ∧ Mv (fun u => t ≤ u) w w7 K K')) := fun z => by
        have hz := hE z
        refine ⟨frozen_at hz.me.at_ 3, fun w7 hw7 => ⟨HA2.out.1, HA2.out.2.1, HA2.out.2.2, .inr rfl, ?_⟩⟩
        have m7 := Mv.of_set (f z) (ext w6 K6 (fun _ => t + 51)) ⟨xb, 3, none⟩ (.int .i64 wt) hz.me.k
        have k7 := set_at hz.me.at_ 3 (.int .i64 wt)
        rw [hw7] at m7 k7
        exact ⟨_, ⟨hz.pc.to m7 (fun t' e => by omega), ⟨k7, hz.me.k⟩, hz.is.mv m7 (by omega), hz.ls.mv m7 (by omega), hz.bx.mv m7 (by omega)⟩, m6.trans (((Mv.of_below (hf1 z) K6 _).mono (fun _ e => e.elim)).trans (m7.mono (fun u e => by omega)))⟩
      clear kw5 Bw5 hb4 hB5 hBo5 k3' hl3 hl3' hl5' hle5 hs3 hkeep k36 k56 E6 m6 hE hf1 hf2 HO hset HX HK3 HA2
      go_wp2_with fail
      refine O5.out.mono ?_
      rintro _ _ ⟨rfl, rfl⟩
      clear O5 c0 c1 c2 c3 c4 c5 c6 c7 c8 c9 hv0 zv0 fv0 hv1 zv1 fv1 hv2 zv2 fv2 hv3 zv3 fv3 hv4 zv4 fv4 hv5 zv5 fv5 hv6 zv6 fv6 hv7 zv7 fv7 hw5 hS5
      have instZ : Nonempty Z := ⟨HZ0.out.choose⟩
      go_wp2_with fail
      refine wp_region_class f (by kernel_rfl) (by kernel_rfl) HZ0.out ?_
      repeat (go_big_quiet_step (first | (go_at_call 23; exact HWt.out _)))
      refine wpQuiet_nil ?_
      rintro _ ⟨z, rfl⟩
      obtain ⟨fz, hz⟩ := HF.out z
      obtain ⟨w7, hw7⟩ : ∃ w7, (f z).setCell ⟨xb, 3, none⟩ (.int .i64 wt) = w7 := ⟨_, rfl⟩
      have H7 := hz w7 hw7
      clear hz HF HWt HZ0
      go_wp2
      go_roundw
      case rel => exact ⟨j + 1, x.seq, A ++ [x], R, wt, by first | (simp; done) | (rw [hj1]; simp), by first | rfl | simp, HJJ.out, H7.out.1, H7.out.2.1, H7.out.2.2.1, .inr rfl, H7.out.2.2.2.2⟩
      case measure => exact meas (by first | rfl | exact hj1) hji
end
end Go.Proofs.YtfcbjcebkahehaaGreatDoor.Cl
