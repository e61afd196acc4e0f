/- ClientOnce: ends. ClientOnce: stands. -/
import Derived.Test.YtfcbjcebkahehaaGreatDoorZbt
namespace Go.Proofs.YtfcbjcebkahehaaGreatDoor.Cl
open Go.RowKit
/-- a region that draws its order, whose operations yield the same in every world of a class -/
theorem wp_region_class {P : Program} {Z : Type} (f : Z → World) {id : Nat} {Q : Exit → Act → World → Prop} {a : Act} {w : World} {l : List Oper} (hm : P.follows .mixedOrders = true) (hB : Region.lexB .any l.toArray = true) (hC : ∃ z, w.drew = f z)
    (h : wpQuiet P l.toArray (fun w' => ∃ z, w' = f z) (fun a' => ∀ w', (∃ z, w' = f z) → Q .normal a' w') l a) : (Code.region id l.toArray true).wp P Q a w :=
  wp_region_quiet (C := fun w' => ∃ z, w' = f z) hm hB hC (by simpa using h)
theorem mod_mid (f : Is → Is) (i : Is) (L2 : List Is) : ∀ L1 : List Is, (L1 ++ i :: L2).modify L1.length f = L1 ++ f i :: L2
  | [] => by simp [List.modify]
  | x :: L1 => by
    have := mod_mid f i L2 L1
    simpa using this
theorem mid_of {I : List Is} {k : Nat} {i : Is} (h : I[k]? = some i) : ∃ L1 L2, I = L1 ++ i :: L2 ∧ L1.length = k := by
  have hk := (List.getElem?_eq_some_iff.1 h).1
  refine ⟨I.take k, I.drop (k + 1), ?_, by rw [List.length_take]; omega⟩
  have e : I[k] = i := (List.getElem?_eq_some_iff.1 h).2
  rw [← e]
  simp
theorem mark_len (I : List Is) (s : Int) : (mark1 I s).length = I.length := mod_len I _ _
theorem bump_len (I : List Is) (s : Int) : (bump1 I s).length = I.length := mod_len I _ _
/-- what the list of calls that were issued is written with -/
theorem RW.isSet {K : Nat → Nat} {w : World} {B t g n cap k : Nat} {I : List Is} {i : Is} (h : RW 99 4 isC K w B t (.slice (some ⟨g, 0, none⟩) n cap) I) (hn : I.length = n) (hi : I[k]? = some i) (f : Is → Is) (j : Nat) (u : Value) (hj : j < 4) (hx : (isC i).set j u = isC (f i)) :
    RW 99 4 isC K (w.setCell ⟨g, k * 4 + j, none⟩ u) B t (.slice (some ⟨g, 0, none⟩) n cap) (I.modify k f) ∧ Mv (fun y => y = t) w (w.setCell ⟨g, k * 4 + j, none⟩ u) K K := by
  obtain ⟨L1, L2, rfl, rfl⟩ := mid_of hi
  rw [mod_mid]
  exact h.set1 isL hn j u hj hx
/-- behind some of the outcomes -/
structure LE (K : Nat → Nat) (w : World) (B t p xb S : Nat) (c : Cf) (oa : Option Addr) (cap : Nat) (next now : Int) (L : List Wt) (vw : Value) (q : Mq) (vi : Value) (I : List Is) (n1 n2 : Int) (v : Value) (D R : List Oc) : Prop where
  pc : PC K w B t p c oa cap next now L [] vw (.slice none 0 0) q
  me : TB K w (t + 20) xb (lfB p vi n1 n2)
  is : RW 99 4 isC K w B (t + 21) vi I
  om : OM c now next I L R n1 n2
  ls : RW 80 9 ocC K w B (t + 2) v D
  bx : TB K w (t + 30) S (.cells #[.int .i64 c.pb, .int .i64 c.pc, .int .i64 c.pt] 23)
section
variable {K K' : Nat → Nat} {w w' : World} {B t p xb S : Nat} {c : Cf} {oa : Option Addr} {cap : Nat} {next now : Int} {L : List Wt} {D R : List Oc} {vw vd v : Value} {q : Mq} {vi : Value} {I : List Is} {n1 n2 : Int}
theorem LE.to {T : Nat → Prop} (h : LE K w B t p xb S c oa cap next now L vw q vi I n1 n2 v D R) (m : Mv T w w' K K') (ht : ∀ t', T t' → t + 30 < t') : LE K' w' B t p xb S c oa cap next now L vw q vi I n1 n2 v D R :=
  ⟨h.pc.to m (fun t' e => by have := ht t' e; omega), h.me.mv m (fun e => by have := ht _ e; omega), h.is.mv m (fun e => by have := ht _ e; omega), h.om, h.ls.mv m (fun e => by have := ht _ e; omega), h.bx.mv m (fun e => by have := ht _ e; omega)⟩
set_option maxRecDepth 8000 in
set_option maxHeartbeats 8000000 in
theorem LF.ends_any (h : LF K w B t p xb c oa cap next now L D vw vd q vi I n1 n2) (hD : D.length ≤ 100000000) :
    Calls Tryz.prog 16 #[ptr xb, .agg #[.int .i64 c.pb, .int .i64 c.pc, .int .i64 c.pt]] w fun e w' => e = .returned (.bool true) ∧ Hid (∃ K' vd' I', LF K' w' B t p xb c oa cap next now L [] vw vd' q vi I' n1 n2 ∧ I'.length = I.length ∧ Mv (fun u => t ≤ u) w w' K K') := by
  have hc := h.hc
  have hIl := h.hI
  have hnw := h.hn
  obtain ⟨S, hS⟩ : ∃ y, w.heap.size = y := ⟨_, rfl⟩
  obtain ⟨w0, hw0⟩ : ∃ y, w.alloc (.cells #[.int .i64 c.pb, .int .i64 c.pc, .int .i64 c.pt] 23) = y := ⟨_, rfl⟩
  have B0 : Below w.heap.size w w0 := by rw [← hw0]; exact (Below.refl _ _).alloc (Nat.le_refl _) _
  have k0 : w0.heap[S]? = some (.cells #[.int .i64 c.pb, .int .i64 c.pc, .int .i64 c.pt] 23) := by rw [← hw0, ← hS]; exact (MapKept.heap_alloc w _).1
  have m0 := Mv.of_below B0 K (fun _ => t + 30)
  have h0 := h.to m0 (fun _ e => e.elim)
  have hKS : ext w K (fun _ => t + 30) S = t + 30 := ext_new (Nat.le_of_eq hS)
  have tS : TB (ext w K (fun _ => t + 30)) w0 (t + 30) S (.cells #[.int .i64 c.pb, .int .i64 c.pc, .int .i64 c.pt] 23) := ⟨k0, hKS⟩
  generalize ext w K (fun _ => t + 30) = K0 at m0 h0 hKS tS
  have x0 := h0.ce0.1
  have HDone := hid h0.pc.done_any
  have H0 : Hid (∀ w1, PC K0 w1 B t p c oa cap next now L [] vw (.slice none 0 0) q → RW 80 9 ocC K0 w1 B (t + 2) vd D → Mv (fun u => u = t) w0 w1 K0 K0 → (∃ K', LE K' w1 B t p xb S c oa cap next now L vw q vi I n1 n2 vd D D ∧ Mv (fun u => t ≤ u) w w1 K K')) := fun w1 P1 R1 m1 =>
    ⟨K0, ⟨P1, h0.me.mv m1 (by omega), h0.is.mv m1 (by omega), h0.om, R1, tS.mv m1 (by omega)⟩, (m0.mono (fun _ e => e.elim)).trans (m1.mono (fun u e => by omega))⟩
  obtain ⟨oI, cI, evi, _, hgI⟩ := h.is.form
  obtain ⟨oD, cD, evd, _, hgD⟩ := h.pc.dn.form
  obtain ⟨n, hn⟩ : ∃ n, D.length = n := ⟨_, rfl⟩
  obtain ⟨mI, hmI⟩ : ∃ m, I.length = m := ⟨_, rfl⟩
  rw [hn] at evd
  rw [hmI] at evi
  subst evd evi
  have HG := hid (And.intro hgI hgD)
  have HN := hid (And.intro hmI (And.intro hn (And.intro (show n ≤ 100000000 by omega) (And.intro hIl (And.intro hnw hc)))))
  rw [hmI]
  clear h h0 hgI hgD hn hD hIl hnw hc m0 tS k0 B0 hKS hmI
  go_enter Tryz.func16, Tryz.ntmps16
  go_wp2_with fail
  refine HDone.out.mono ?_
  rintro _ w1 ⟨rfl, P1, R1, m1⟩
  have HS := hid (H0.out w1 P1 R1 m1)
  clear HDone H0 P1 R1 m1 x0
  go_wp2_with fail
  go_loopw [6] (fun u6 wr => ∃ (j : Nat) (A R : List Oc) (I' : List Is), u6 = .int .i64 (j : Int) ∧ j ≤ n ∧ Hid (A.length = j ∧ A ++ R = D ∧ I'.length = mI ∧ ∃ K', LE K' wr B t p xb S c oa cap next now L vw q (.slice oI mI cI) I' n1 n2 (.slice oD n cD) D R ∧ Mv (fun u => t ≤ u) w wr K K')) (fun u6 _ => n - (intOf u6).toNat)
  case atStart => exact ⟨0, [], D, I, rfl, by omega, rfl, rfl, HN.out.1, HS.out⟩
  case round =>
    obtain ⟨j, A, R, I', rfl, hjn, HR⟩ := hrel
    clear HS
    obtain ⟨wo, hwo⟩ : ∃ yy, yy = wr := ⟨_, rfl⟩
    subst hwo
    obtain ⟨hA, hAR, hI', K1, E, m1⟩ := HR.out
    have hlen : A.length + R.length = n := by rw [← HN.out.2.1, ← hAR]; simp
    cases R with
    | nil =>
      have hjn2 : j = n := by simp at hlen; omega
      subst hjn2
      have HF : Hid (∃ K' vd' I', LF K' wo B t p xb c oa cap next now L [] vw vd' q (.slice oI mI cI) I' n1 n2 ∧ I'.length = mI ∧ Mv (fun u => t ≤ u) w wo K K') := ⟨K1, _, I', ⟨E.pc, E.me, E.is, E.om, HN.out.2.2.2.2.2, by rw [hI', ← HN.out.1]; exact HN.out.2.2.2.1, HN.out.2.2.2.2.1⟩, hI', m1⟩
      clear hA hAR hI' hlen E m1 HR
      go_wp2
      go_ret
      exact ⟨rfl, HF.out⟩
    | cons d R =>
      have hj : j < n := by simp at hlen; omega
      have hji : (j : Int) < (n : Int) := by omega
      obtain ⟨gD, rfl⟩ := HG.out.2 (by rw [HN.out.2.1]; omega)
      obtain ⟨om', k, i, a1, a2, a3, a4, a5, a6, a7⟩ := E.om.mark
      have hkI : k < mI := by rw [← hI']; exact (List.getElem?_eq_some_iff.1 a1).1
      obtain ⟨gI, rfl⟩ := HG.out.1 (by rw [HN.out.1]; omega)
      have hDj : D[j]? = some d := by rw [← hAR, List.getElem?_append_right (by omega), hA]; simp
      have e0 : wo.cell? ⟨gD, j * 9, none⟩ = some (.int .i64 d.seq) := E.ls.cell ocL HN.out.2.1 hDj 0 (by omega)
      have HO : Hid (Calls Tryz.prog 48 #[ptr xb, .int .i64 d.seq] wo fun e w' => e = .returned (.int .i64 (k : Int)) ∧ w' = wo) := by
        have := Cl.of_any E.me E.is E.om.num d.seq (by rw [hI']; have := HN.out.2.2.2.1; rw [HN.out.1] at this; omega)
        have e : ofP I'.length d.seq = (k : Int) := by
          unfold ofP
          rw [if_pos (by rw [hI', a2]; omega), a2]
          omega
        rwa [e] at this
      obtain ⟨Z, f, hf1, hf2⟩ : ∃ (Z : Type) (f : Z → World), (∀ z, Below wo.heap.size wo (f z)) ∧ ∀ w', Below wo.heap.size wo w' → ∃ z, w' = f z := ⟨{ w' // Below wo.heap.size wo w' }, Subtype.val, fun z => z.2, fun w' h => ⟨⟨w', h⟩, rfl⟩⟩
      have hE : ∀ z, LE (ext wo K1 (fun _ => t + 31)) (f z) B t p xb S c oa cap next now L vw q (.slice (some ⟨gI, 0, none⟩) mI cI) I' n1 n2 (.slice (some ⟨gD, 0, none⟩) n cD) D (d :: R) := fun z => E.to (Mv.of_below (hf1 z) K1 _) (fun _ e => e.elim)
      have z0 : ∀ z, (f z).cell? ⟨xb, 0, none⟩ = some (ptr p) := fun z => cell_at (hE z).me.at_ rfl
      have z1 : ∀ z, (f z).cell? ⟨xb, 1, none⟩ = some (.slice (some ⟨gI, 0, none⟩) mI cI) := fun z => cell_at (hE z).me.at_ rfl
      have z2 : ∀ z, (f z).cell? ⟨gI, k * 4 + 1, none⟩ = some (.int .i64 i.at_) := fun z => ((hE z).is.is4 hI' a1).2.1
      have z3 : ∀ z, (f z).cell? ⟨gI, k * 4 + 3, none⟩ = some (.bool false) := fun z => by rw [← a3]; exact ((hE z).is.is4 hI' a1).2.2.2
      have z4 : ∀ z, (f z).cell? ⟨gD, j * 9 + 8, none⟩ = some (.int .i64 now) := fun z => by rw [← a4]; exact (hE z).ls.cell ocL HN.out.2.1 hDj 8 (by omega)
      have z5 : ∀ z, (f z).cell? ⟨S, 0, none⟩ = some (.int .i64 c.pb) := fun z => cell_at (hE z).bx.at_ rfl
      have z6 : ∀ z, (f z).cell? ⟨S, 1, none⟩ = some (.int .i64 c.pc) := fun z => cell_at (hE z).bx.at_ rfl
      have z7 : ∀ z, (f z).cell? ⟨S, 2, none⟩ = some (.int .i64 c.pt) := fun z => cell_at (hE z).bx.at_ rfl
      obtain ⟨tt, htt⟩ : ∃ tt, Pc.totalP c.pb c.pc c.pt = tt := ⟨_, rfl⟩
      rw [htt] at a5
      have htt2 : 0 ≤ tt ∧ tt ≤ 120 := by rw [← htt]; exact HN.out.2.2.2.2.2.total
      have hnw := HN.out.2.2.2.2.1
      obtain ⟨sm, hsm⟩ : ∃ sm, i.at_ + tt = sm := ⟨_, rfl⟩
      have hs1 : wrap64 (i.at_ + tt) = sm := by rw [← hsm]; unfold wrap64; omega
      have hs2 : IntKind.i64.wrap (i.at_ + tt) = sm := by rw [IntWalk.i64_left]; exact hs1
      have hgt : decide (sm < now) = false := decide_eq_false (by omega)
      have hk0 : decide ((k : Int) < 0) = false := decide_eq_false (by omega)
      have hkm : (k : Int) < (mI : Int) := by omega
      have hkm0 : (0 : Int) ≤ (k : Int) := by omega
      have hj0 : (0 : Int) ≤ (j : Int) := by omega
      have HT : Hid (∀ z, Calls Tryz.prog 53 #[.agg #[.int .i64 c.pb, .int .i64 c.pc, .int .i64 c.pt]] (f z) fun e w' => e = .returned (.int .i64 tt) ∧ ∃ z', w' = f z') := fun z => by
        refine (Pc.total_any (f z) c.pb c.pc c.pt).mono ?_
        rintro e w' ⟨rfl, hb⟩
        exact ⟨by rw [htt], hf2 w' ((hf1 z).trans (hb.mono (hf1 z).size))⟩
      have HNo : Hid (∀ z, Calls Tryz.prog 24 #[ptr p] (f z) fun e w' => e = .returned (.int .i64 now) ∧ ∃ z', w' = f z') := fun z => by
        refine (hE z).pc.now_any.mono ?_
        rintro e w' ⟨rfl, rfl⟩
        exact ⟨rfl, z, rfl⟩
      have HZ0 : Hid (∃ z, wo.drew = f z) := hf2 _ (Below.refl _ _).drew
      have hj1 : wrap64 ((j : Int) + 1) = (j : Int) + 1 := wrapS (by have := HN.out.2.2.1; omega)
      have HF : Hid (∀ z, (f z).frozen? ⟨gI, k * 4 + 3, none⟩ = false ∧ ∀ w2, (f z).setCell ⟨gI, k * 4 + 3, none⟩ (.bool true) = w2 → ∃ I'', Hid ((A ++ [d]).length = j + 1 ∧ (A ++ [d]) ++ R = D ∧ I''.length = mI ∧ ∃ K', LE K' w2 B t p xb S c oa cap next now L vw q (.slice (some ⟨gI, 0, none⟩) mI cI) I'' n1 n2 (.slice (some ⟨gD, 0, none⟩) n cD) D R ∧ Mv (fun u => t ≤ u) w w2 K K')) := fun z => by
        have hz := hE z
        obtain ⟨r1, r2⟩ := hz.is.isSet hI' a1 (fun i => { i with over := true }) 3 (.bool true) (by omega) rfl
        have mz := Mv.of_below (hf1 z) K1 (fun _ => t + 31)
        refine ⟨hz.is.frozen _, fun w2 hw2 => ?_⟩
        rw [hw2] at r1 r2
        refine ⟨mark1 I' d.seq, by simp [hA], by simpa using hAR, by rw [mark_len]; exact hI', _, ⟨?_, hz.me.mv r2 (by omega), ?_, om', hz.ls.mv r2 (by omega), hz.bx.mv r2 (by omega)⟩, m1.trans ((mz.mono (fun _ e => e.elim)).trans (r2.mono (fun u e => by omega)))⟩
        · exact hz.pc.to' r2 (fun t' e => by omega)
        · have : mark1 I' d.seq = I'.modify k (fun i => { i with over := true }) := by
            unfold mark1
            rw [a2, show ((9 : Int) + k - 9).toNat = k by omega]
          rw [this]
          exact r1
      clear hA hAR hlen E m1 HR om' a1 a2 a3 a4 a5 a6 a7 hDj hf1 hf2 hE htt htt2 hnw hsm hI' hkI
      go_wp2_with fail
      refine HO.out.mono ?_
      rintro _ _ ⟨rfl, rfl⟩
      clear HO
      have instZ : Nonempty Z := ⟨HZ0.out.choose⟩
      go_wp2_with fail
      refine wp_region_class f (by kernel_rfl) (by kernel_rfl) HZ0.out ?_
      repeat (go_big_quiet_step (first | (go_at_call 53; exact HT.out _) | (go_at_call 24; exact HNo.out _)))
      refine wpQuiet_nil ?_
      rintro _ ⟨z, rfl⟩
      obtain ⟨fz, hz⟩ := HF.out z
      obtain ⟨w2, hw2⟩ : ∃ w2, (f z).setCell ⟨gI, k * 4 + 3, none⟩ (.bool true) = w2 := ⟨_, rfl⟩
      obtain ⟨I'', H2⟩ := hz w2 hw2
      clear hz HF HT HNo HZ0
      go_wp2
      go_roundw
      case rel => exact ⟨j + 1, A ++ [d], R, I'', by first | (simp; done) | (rw [hj1]; simp), hj, H2.out⟩
      case measure => exact meas (by first | rfl | exact hj1) hji
end
end Go.Proofs.YtfcbjcebkahehaaGreatDoor.Cl
namespace Go.Proofs.YtfcbjcebkahehaaGreatDoor.Cl
open Go.RowKit
theorem wrap_in {x : Int} (h : -9223372036854775808 ≤ x ∧ x ≤ 9223372036854775807) : wrap64 x = x := by unfold wrap64; omega
theorem novI_take {I : List Is} {j : Nat} {i : Is} (h : I[j]? = some i) : novI (I.take (j + 1)) = if i.over then novI (I.take j) else novI (I.take j) ++ [i.seq] := by
  unfold novI
  rw [List.take_add_one, h]
  cases ho : i.over <;> simp [List.filter_append, ho]
theorem novI_len (I : List Is) : (novI I).length ≤ I.length := by
  unfold novI
  rw [List.length_map]
  exact List.length_filter_le _ _
section
variable {K K' : Nat → Nat} {w w' : World} {B t p xb S : Nat} {c : Cf} {oa : Option Addr} {cap : Nat} {next now : Int} {L : List Wt} {D R : List Oc} {vw vd v : Value} {q : Mq} {vi : Value} {I : List Is} {n1 n2 : Int}
/-- behind some of what was issued -/
structure LS (K : Nat → Nat) (w : World) (B t p xb S : Nat) (c : Cf) (oa : Option Addr) (cap : Nat) (next now : Int) (L : List Wt) (vw vd : Value) (q : Mq) (vi : Value) (I : List Is) (n1 n2 : Int) (v : Value) (l : List Int) : Prop where
  lf : LF K w B t p xb c oa cap next now L [] vw vd q vi I n1 n2
  ls : RW 3 1 intC K w B (t + 41) v l
  bx : TB K w (t + 30) S (.cells #[.int .i64 c.pb, .int .i64 c.pc, .int .i64 c.pt] 23)
theorem LS.to {l : List Int} {T : Nat → Prop} (h : LS K w B t p xb S c oa cap next now L vw vd q vi I n1 n2 v l) (m : Mv T w w' K K') (ht : ∀ t', T t' → t + 41 < t') : LS K' w' B t p xb S c oa cap next now L vw vd q vi I n1 n2 v l :=
  ⟨h.lf.to m (fun t' e => by have := ht t' e; omega), h.ls.mv m (fun e => by have := ht _ e; omega), h.bx.mv m (fun e => by have := ht _ e; omega)⟩
theorem LF.wat (h : LF K w B t p xb c oa cap next now L D vw vd q vi I n1 n2) (n : Int) (om : OM c now next I L D n n2) : LF K (w.setCell ⟨xb, 2, none⟩ (.int .i64 n)) B t p xb c oa cap next now L D vw vd q vi I n n2 ∧ Mv (fun u => u = t + 20) w (w.setCell ⟨xb, 2, none⟩ (.int .i64 n)) K K := by
  have m := Mv.of_set w K ⟨xb, 2, none⟩ (.int .i64 n) h.me.k
  exact ⟨⟨h.pc.to m (fun t' e => by omega), ⟨set_at h.me.at_ 2 _, h.me.k⟩, h.is.mv m (by omega), om, h.hc, h.hI, h.hn⟩, m⟩
theorem LF.sai (h : LF K w B t p xb c oa cap next now L D vw vd q vi I n1 n2) (n : Int) (om : OM c now next I L D n1 n) : LF K (w.setCell ⟨xb, 3, none⟩ (.int .i64 n)) B t p xb c oa cap next now L D vw vd q vi I n1 n ∧ Mv (fun u => u = t + 20) w (w.setCell ⟨xb, 3, none⟩ (.int .i64 n)) K K := by
  have m := Mv.of_set w K ⟨xb, 3, none⟩ (.int .i64 n) h.me.k
  exact ⟨⟨h.pc.to m (fun t' e => by omega), ⟨set_at h.me.at_ 3 _, h.me.k⟩, h.is.mv m (by omega), om, h.hc, h.hI, h.hn⟩, m⟩
theorem OM.lenL (h : OM c now next I L [] n1 n2) : L.length ≤ I.length := by
  have := novI_len I
  rw [h.nov, List.length_map] at this
  exact this
set_option maxRecDepth 8000 in
set_option maxHeartbeats 8000000 in
theorem LF.stands_any (h : LF K w B t p xb c oa cap next now L [] vw vd q vi I n1 n2) :
    Calls Tryz.prog 17 #[ptr xb, .agg #[.int .i64 c.pb, .int .i64 c.pc, .int .i64 c.pt], .int .i64 c.win] w fun e w' => e = .returned (.bool true) ∧ Hid (∃ K', LF K' w' B t p xb c oa cap next now L [] vw vd q vi I (waterL next L) n2 ∧ Mv (fun u => t ≤ u) w w' K K') := by
  have hc := h.hc
  have hIl := h.hI
  have hnw := h.hn
  have hom := h.om
  obtain ⟨S, hS⟩ : ∃ y, w.heap.size = y := ⟨_, rfl⟩
  obtain ⟨w0, hw0⟩ : ∃ y, w.alloc (.cells #[.int .i64 c.pb, .int .i64 c.pc, .int .i64 c.pt] 23) = y := ⟨_, rfl⟩
  have B0 : Below w.heap.size w w0 := by rw [← hw0]; exact (Below.refl _ _).alloc (Nat.le_refl _) _
  have k0 : w0.heap[S]? = some (.cells #[.int .i64 c.pb, .int .i64 c.pc, .int .i64 c.pt] 23) := by rw [← hw0, ← hS]; exact (MapKept.heap_alloc w _).1
  have m0 := Mv.of_below B0 K (fun _ => t + 30)
  have h0 := h.to m0 (fun _ e => e.elim)
  have hKS : ext w K (fun _ => t + 30) S = t + 30 := ext_new (Nat.le_of_eq hS)
  have tS : TB (ext w K (fun _ => t + 30)) w0 (t + 30) S (.cells #[.int .i64 c.pb, .int .i64 c.pc, .int .i64 c.pt] 23) := ⟨k0, hKS⟩
  generalize ext w K (fun _ => t + 30) = K0 at m0 h0 hKS tS
  have HS : Hid (∃ K', LS K' w0 B t p xb S c oa cap next now L vw vd q vi I n1 n2 (.slice none 0 0) (novI (I.take 0)) ∧ Mv (fun u => t ≤ u) w w0 K K') := ⟨K0, ⟨h0, RW.nil _ _ _ _ _ _ _, tS⟩, m0.mono (fun _ e => e.elim)⟩
  obtain ⟨oI, cI, evi, _, hgI⟩ := h.is.form
  obtain ⟨mI, hmI⟩ : ∃ m, I.length = m := ⟨_, rfl⟩
  rw [hmI] at evi
  subst evi
  obtain ⟨wt, hwt⟩ : ∃ wt, waterL next L = wt := ⟨_, rfl⟩
  rw [hwt]
  have HWT := hid hwt
  have HG := hid hgI
  have HN := hid (And.intro hmI (And.intro (show mI ≤ 50000000 by omega) (And.intro hnw (And.intro hc hom))))
  clear h h0 hgI hIl hnw hc hom m0 tS k0 B0 hKS hmI hwt
  go_enter Tryz.func17, Tryz.ntmps17
  go_wp2_with fail
  go_loopw [8, 7] (fun u8 u7 wr => ∃ (j : Nat) (o : Option Addr) (ln cp : Nat), u8 = .int .i64 (j : Int) ∧ u7 = .slice o ln cp ∧ j ≤ mI ∧ Hid ((novI (I.take j)).length = ln ∧ ∃ K', LS K' wr B t p xb S c oa cap next now L vw vd q (.slice oI mI cI) I n1 n2 (.slice o ln cp) (novI (I.take j)) ∧ Mv (fun u => t ≤ u) w wr K K')) (fun u8 _ _ => mI - (intOf u8).toNat)
  case atStart => exact ⟨0, none, 0, 0, rfl, rfl, by omega, rfl, HS.out⟩
  case round =>
    obtain ⟨j, o, ln, cp, rfl, rfl, hjm, HR⟩ := hrel
    clear HS
    obtain ⟨wo, hwo⟩ : ∃ yy, yy = wr := ⟨_, rfl⟩
    subst hwo
    obtain ⟨hln, K1, E, m1⟩ := HR.out
    have x1 : wo.cell? ⟨xb, 1, none⟩ = some (.slice oI mI cI) := E.lf.ce0.2.1
    by_cases hj : j < mI
    · have hji : (j : Int) < (mI : Int) := by omega
      obtain ⟨gI, rfl⟩ := HG.out (by rw [HN.out.1]; omega)
      obtain ⟨i, hi⟩ : ∃ i, I[j]? = some i := ⟨_, List.getElem?_eq_getElem (by have := HN.out.1; omega)⟩
      obtain ⟨d0, d1, d2, d3⟩ := E.lf.is.is4 HN.out.1 hi
      have hj1 : wrap64 ((j : Int) + 1) = (j : Int) + 1 := wrapS (by have := HN.out.2.1; omega)
      have htk := novI_take hi
      cases ho : i.over
      · rw [ho] at d3 htk
        rw [if_neg (by decide)] at htk
        have hsoon := HN.out.2.2.2.2.soon hi ho
        obtain ⟨N, hN⟩ : ∃ y, wo.heap.size = y := ⟨_, rfl⟩
        obtain ⟨wn, hwn⟩ : ∃ y, wo.alloc (.cells #[.int .i64 i.seq] 3) = y := ⟨_, rfl⟩
        have hlj : ln ≤ 50000000 := by
          have := novI_len (I.take j)
          rw [List.length_take] at this
          have := HN.out.2.1
          omega
        obtain ⟨o2, cp2, w2, K2, hr, R2, m2⟩ := app24n E.ls E.lf.pc.hB i.seq (by rw [hln]; omega)
        rw [hln, hN, hwn] at hr
        rw [hln] at R2
        have HRun := hid hr
        have E2 : LS K2 w2 B t p xb S c oa cap next now L vw vd q (.slice (some ⟨gI, 0, none⟩) mI cI) I n1 n2 (.slice o2 (ln + 1) cp2) (novI (I.take (j + 1))) := by
          rw [htk]
          exact ⟨E.lf.to m2 (fun t' e => by omega), R2, E.bx.mv m2 (by omega)⟩
        have hln2 : (novI (I.take (j + 1))).length = ln + 1 := by rw [htk]; simp [hln]
        obtain ⟨Z, f, hf1, hf2⟩ : ∃ (Z : Type) (f : Z → World), (∀ z, Below w2.heap.size w2 (f z)) ∧ ∀ w', Below w2.heap.size w2 w' → ∃ z, w' = f z := ⟨{ w' // Below w2.heap.size w2 w' }, Subtype.val, fun z => z.2, fun w' h => ⟨⟨w', h⟩, rfl⟩⟩
        have hE : ∀ z, LS (ext w2 K2 (fun _ => t + 42)) (f z) B t p xb S c oa cap next now L vw vd q (.slice (some ⟨gI, 0, none⟩) mI cI) I n1 n2 (.slice o2 (ln + 1) cp2) (novI (I.take (j + 1))) := fun z => E2.to (Mv.of_below (hf1 z) K2 _) (fun _ e => e.elim)
        have z0 : ∀ z, (f z).cell? ⟨xb, 0, none⟩ = some (ptr p) := fun z => cell_at (hE z).lf.me.at_ rfl
        have z1 : ∀ z, (f z).cell? ⟨xb, 1, none⟩ = some (.slice (some ⟨gI, 0, none⟩) mI cI) := fun z => cell_at (hE z).lf.me.at_ rfl
        have z2 : ∀ z, (f z).cell? ⟨gI, j * 4 + 1, none⟩ = some (.int .i64 i.at_) := fun z => ((hE z).lf.is.is4 HN.out.1 hi).2.1
        have z5 : ∀ z, (f z).cell? ⟨S, 0, none⟩ = some (.int .i64 c.pb) := fun z => cell_at (hE z).bx.at_ rfl
        have z6 : ∀ z, (f z).cell? ⟨S, 1, none⟩ = some (.int .i64 c.pc) := fun z => cell_at (hE z).bx.at_ rfl
        have z7 : ∀ z, (f z).cell? ⟨S, 2, none⟩ = some (.int .i64 c.pt) := fun z => cell_at (hE z).bx.at_ rfl
        obtain ⟨tt, htt⟩ : ∃ tt, Pc.totalP c.pb c.pc c.pt = tt := ⟨_, rfl⟩
        rw [htt] at hsoon
        have htt2 : 0 ≤ tt ∧ tt ≤ 120 := by rw [← htt]; exact HN.out.2.2.2.1.total
        have hnw := HN.out.2.2.1
        obtain ⟨sm, hsm⟩ : ∃ sm, i.at_ + tt = sm := ⟨_, rfl⟩
        have hs1 : wrap64 (i.at_ + tt) = sm := by rw [← hsm]; unfold wrap64; omega
        have hs2 : IntKind.i64.wrap (i.at_ + tt) = sm := by rw [IntWalk.i64_left]; exact hs1
        have hgt : decide (sm ≤ now) = false := decide_eq_false (by omega)
        have hj0 : (0 : Int) ≤ (j : Int) := by omega
        have HT : Hid (∀ z, Calls Tryz.prog 53 #[.agg #[.int .i64 c.pb, .int .i64 c.pc, .int .i64 c.pt]] (f z) fun e w' => e = .returned (.int .i64 tt) ∧ ∃ z', w' = f z') := fun z => by
          refine (Pc.total_any (f z) c.pb c.pc c.pt).mono ?_
          rintro e w' ⟨rfl, hb⟩
          exact ⟨by rw [htt], hf2 w' ((hf1 z).trans (hb.mono (hf1 z).size))⟩
        have HNo : Hid (∀ z, Calls Tryz.prog 24 #[ptr p] (f z) fun e w' => e = .returned (.int .i64 now) ∧ ∃ z', w' = f z') := fun z => by
          refine (hE z).lf.pc.now_any.mono ?_
          rintro e w' ⟨rfl, rfl⟩
          exact ⟨rfl, z, rfl⟩
        have HZ0 : Hid (∃ z, w2.drew = f z) := hf2 _ (Below.refl _ _).drew
        have HF : Hid (∀ z, (novI (I.take (j + 1))).length = ln + 1 ∧ ∃ K', LS K' (f z) B t p xb S c oa cap next now L vw vd q (.slice (some ⟨gI, 0, none⟩) mI cI) I n1 n2 (.slice o2 (ln + 1) cp2) (novI (I.take (j + 1))) ∧ Mv (fun u => t ≤ u) w (f z) K K') := fun z =>
          ⟨hln2, _, hE z, m1.trans ((m2.mono (fun u e => by omega)).trans ((Mv.of_below (hf1 z) K2 _).mono (fun _ e => e.elim)))⟩
        have hb := fun n w => bls24n n w
        have HHJ := hid hj
        clear E E2 hE m1 m2 hi htk hsoon hr R2 hln hln2 hlj hf1 hf2 htt htt2 hnw hsm HR hj hjm ho d1 d2
        go_wp2_with (at_builtin; refine Hid.out ?_)
        refine (show Hid _ from ?_)
        refine wpList_app rfl _ _ 24 rfl _ _ _ _ rfl rfl (HRun.out _) ?_
        have instZ : Nonempty Z := ⟨HZ0.out.choose⟩
        clear HRun d0 d3 x1
        go_wp2_with fail
        refine wp_region_class f (by kernel_rfl) (by kernel_rfl) HZ0.out ?_
        repeat (go_big_quiet_step (first | (go_at_call 53; exact HT.out _) | (go_at_call 24; exact HNo.out _)))
        refine wpQuiet_nil ?_
        rintro _ ⟨z, rfl⟩
        have H2 := hid (HF.out z)
        clear HF HT HNo HZ0
        go_wp2
        go_roundw
        case rel => exact ⟨j + 1, o2, ln + 1, cp2, by first | (simp; done) | (rw [hj1]; simp), by first | rfl | simp, HHJ.out, H2.out⟩
        case measure => exact meas (by first | rfl | exact hj1) hji
      · rw [ho] at d3 htk
        rw [if_pos rfl] at htk
        have HF : Hid ((novI (I.take (j + 1))).length = ln ∧ ∃ K', LS K' wo B t p xb S c oa cap next now L vw vd q (.slice (some ⟨gI, 0, none⟩) mI cI) I n1 n2 (.slice o ln cp) (novI (I.take (j + 1))) ∧ Mv (fun u => t ≤ u) w wo K K') := by
          rw [htk]
          exact ⟨hln, K1, E, m1⟩
        clear E m1 hi htk hln HR d0 d1 d2
        go_wp2
        go_roundw
        case rel => exact ⟨j + 1, o, ln, cp, by first | (simp; done) | (rw [hj1]; simp), by first | rfl | simp, hj, HF.out⟩
        case measure => exact meas (by first | rfl | exact hj1) hji
    · obtain rfl : j = mI := by omega
      have hall : I.take j = I := List.take_of_length_le (by rw [HN.out.1]; exact Nat.le_refl _)
      have hnov := HN.out.2.2.2.2.nov
      rw [hall, hnov] at E hln
      have HWa := hid E.lf.pc.water_any
      have hwat := HN.out.2.2.2.2.water HN.out.2.2.2.1.w1
      have hnx := HN.out.2.2.2.2.nxt
      rw [HN.out.1] at hnx
      have hmle := HN.out.2.1
      have hwt := HWT.out
      rw [hwt] at hwat HWa
      have b1 : -9223372036854775808 ≤ 9 + (j : Int) ∧ 9 + (j : Int) ≤ 9223372036854775807 := by omega
      obtain ⟨df, hdf2⟩ : ∃ df, next - wt = df := ⟨_, rfl⟩
      rw [hdf2] at hwat
      have b2 : -9223372036854775808 ≤ df ∧ df ≤ 9223372036854775807 := by omega
      have hw1 : decide (wt < n1) = false := decide_eq_false (by omega)
      have hw2 : decide (c.win < df) = false := decide_eq_false (by omega)
      have hLl : L.length = ln := by rw [← hln, List.length_map]
      have hLs := HN.out.2.2.2.2.lenL
      rw [HN.out.1] at hLs
      have hLB : L.length ≤ 100000000 := by omega
      have hlnB : ln ≤ 100000000 := by omega
      have HWg := E.lf.pc.waiting_any (t + 60) (by omega) hLB
      have HI : Hid (∀ e w2, (∃ v, e = Ending.returned v ∧ Hid (∃ K', RW 3 1 intC K' w2 B (t + 60) v (L.map Wt.seq) ∧ Mv (fun u => u = t + 60) wo w2 K1 K')) → ∃ v, e = .returned v ∧ Calls Tryz.prog 38 #[.slice o ln cp, v] w2 fun e w3 => e = .returned (.bool true) ∧ w3.cell? ⟨xb, 1, none⟩ = some (.slice oI j cI) ∧ w3.cell? ⟨xb, 2, none⟩ = some (.int .i64 n1) ∧ w3.frozen? ⟨xb, 2, none⟩ = false ∧ ∀ w4, w3.setCell ⟨xb, 2, none⟩ (.int .i64 wt) = w4 → Hid (∃ K', LF K' w4 B t p xb c oa cap next now L [] vw vd q (.slice oI j cI) I wt n2 ∧ Mv (fun u => t ≤ u) w w4 K K')) := by
        rintro e w2 ⟨v, rfl, hh⟩
        obtain ⟨K2, R2, m2⟩ := hh.out
        refine ⟨v, rfl, ?_⟩
        have E2 := E.to m2 (fun t' e => by omega)
        refine (ints_any E2.ls R2 (by rw [List.length_map]; exact hLB)).mono ?_
        rintro e w3 ⟨rfl, k, rfl⟩
        have m3 := mv_drewN w2 K2 k
        have l3 := E2.lf.to m3 (fun _ e => e.elim)
        refine ⟨by simp, l3.ce0.2.1, l3.ce0.2.2.1, frozen_at l3.me.at_ 2, fun w4 hw4 => ?_⟩
        have om := l3.om.raise
        rw [hwt] at om
        obtain ⟨l4, m4⟩ := l3.wat wt om
        rw [hw4] at l4 m4
        exact ⟨K2, l4, m1.trans ((m2.mono (fun u e => by omega)).trans ((m3.mono (fun _ e => e.elim)).trans (m4.mono (fun u e => by omega))))⟩
      have HWg := hid HWg
      have HWR : Hid (wrap64 (9 + (j : Int)) = next ∧ wrap64 (next - wt) = df) := ⟨by rw [wrap_in b1, hnx], by rw [hdf2]; exact wrap_in b2⟩
      have x0 : wo.cell? ⟨xb, 0, none⟩ = some (ptr p) := E.lf.ce0.1
      have hgl := E.ls.form
      cases L with
      | nil =>
        simp at hLl
        subst hLl
        have hwn : wt = next := hwt.symm
        subst hwn
        have hz : decide (c.win < 0) = false := decide_eq_false (by have := HN.out.2.2.2.1.w1; omega)
        have hz0 : wrap64 0 = 0 := by unfold wrap64; omega
        have hsm := HWR.out.1
        have hdf := HWR.out.2
        clear E hgl hln hLs hwat hnx hmle hwt hdf2 HR hj hall hnov m1 b1 b2 hLB hlnB HWR
        go_wp2_with fail
        refine HWa.out.mono ?_
        rintro _ _ ⟨rfl, rfl⟩
        clear HWa
        go_wp2_with fail
        refine HWg.out.mono fun e w2 h2 => ?_
        obtain ⟨v, rfl, H38⟩ := HI.out e w2 h2
        have H38 := hid H38
        clear HWg HI x1 x0
        go_wp2_with fail
        refine H38.out.mono ?_
        rintro _ w3 ⟨rfl, y1, y2, y3, hF⟩
        obtain ⟨w4, hw4⟩ : ∃ w4, w3.setCell ⟨xb, 2, none⟩ (.int .i64 wt) = w4 := ⟨_, rfl⟩
        have HF := hF w4 hw4
        clear H38 hF
        go_wp2
        go_ret
        exact ⟨rfl, HF⟩
      | cons x L =>
        obtain ⟨o', cp', e', _, hg'⟩ := hgl
        simp only [List.length_map] at e' hg'
        rw [hLl] at e' hg'
        cases e'
        have hl0 : 0 < ln := by rw [← hLl]; simp
        have hl0i : (0 : Int) < (ln : Int) := by omega
        obtain ⟨gl, rfl⟩ := hg' hl0
        have y0 : wo.cell? ⟨gl, 0, none⟩ = some (.int .i64 wt) := by
          have := E.ls.cell intL (by rw [List.length_map]; exact hLl) (j := 0) (x := x.seq) rfl 0 (by omega)
          rw [← hwt]
          simpa [intC, waterL] using this
        have hsm := HWR.out.1
        have hdf := HWR.out.2
        clear E hln hLs hwat hnx hmle hwt hdf2 HR hj hall hnov hg' m1 b1 b2 hLB hlnB HWR
        go_wp2_with fail
        refine HWa.out.mono ?_
        rintro _ _ ⟨rfl, rfl⟩
        clear HWa
        go_wp2_with fail
        refine HWg.out.mono fun e w2 h2 => ?_
        obtain ⟨v, rfl, H38⟩ := HI.out e w2 h2
        have H38 := hid H38
        clear HWg HI x1 x0 y0
        go_wp2_with fail
        refine H38.out.mono ?_
        rintro _ w3 ⟨rfl, y1, y2, y3, hF⟩
        obtain ⟨w4, hw4⟩ : ∃ w4, w3.setCell ⟨xb, 2, none⟩ (.int .i64 wt) = w4 := ⟨_, rfl⟩
        have HF := hF w4 hw4
        clear H38 hF
        go_wp2
        go_ret
        exact ⟨rfl, HF⟩
end
end Go.Proofs.YtfcbjcebkahehaaGreatDoor.Cl
