/- pick. ShelfBound: what Prune asks; unwanted; Prune. ShelfBound: rows with a tag; the script; what Prune asks. ShelfBound: what holds at each step. -/
import Derived.Test.YthhddpobnkmeaaaBoA
import Derived.Test.YthhddpobnkmeaaaBoC
import Derived.Test.YthhddpobnkmeaaaBoB
import Derived.Laws.BytesString
namespace Go.Proofs.Ythhddpobnkmeaaa
open Go.RowKit
def pickP (c n : Int) : Int := (if c < 0 then -(c + 1) else c) % n
theorem pick_range (c n : Int) (h : 0 < n) : 0 ≤ pickP c n ∧ pickP c n < n := ⟨Int.emod_nonneg _ (by omega), Int.emod_lt_of_pos _ h⟩
theorem pick_any (c n : Int) (w : World) (h0 : -9223372036854775808 ≤ c) (h1 : c ≤ 9223372036854775807) (hn0 : 1 ≤ n) (hn1 : n ≤ 9223372036854775807) :
    Calls Try.prog 10 #[.int .i64 c, .int .i64 n] w fun e w' => e = .returned (.int .i64 (pickP c n)) ∧ w' = w := by
  unfold pickP
  by_cases hc : c < 0
  · rw [if_pos hc]
    obtain ⟨d, hd⟩ : ∃ d, -(c + 1) = d := ⟨_, rfl⟩
    rw [hd]
    have hd0 : 0 ≤ d := by omega
    have hd1 : d ≤ 9223372036854775807 := by omega
    go_enter Try.func10, Try.ntmps10
    go_wp2
    go_ret
    exact ⟨by rw [← hd]; rfl, rfl⟩
  · rw [if_neg hc]
    go_enter Try.func10, Try.ntmps10
    go_wp2
    go_ret
    exact ⟨rfl, rfl⟩
theorem pickP_in (c n : Int) (hn : 0 < n) : 0 ≤ pickP c n ∧ pickP c n < n := by
  unfold pickP
  split
  · exact ⟨Int.emod_nonneg _ (by omega), Int.emod_lt_of_pos _ hn⟩
  · exact ⟨Int.emod_nonneg _ (by omega), Int.emod_lt_of_pos _ hn⟩
end Go.Proofs.Ythhddpobnkmeaaa
namespace Go.Proofs.Ythhddpobnkmeaaa
open Go.RowKit
theorem kcsI_map (L : List (Th Int ByteArray)) : kcsI (L.map Th.k) = L.map (fun t => Value.int .i64 t.k) := by
  induction L with
  | nil => rfl
  | cons t L ih => rw [List.map_cons, List.map_cons, ← ih]; rfl
theorem vcsI_map (L : List (Th Int ByteArray)) : vcsI (L.map Th.v) = L.map (fun t => Value.string t.v) := by
  induction L with
  | nil => rfl
  | cons t L ih => rw [List.map_cons, List.map_cons, ← ih]; rfl
def unw (kp : Int → Bool) (l : List (Th Int ByteArray)) : List (Th Int ByteArray) := l.filter fun t => !kp t.k
def UR (w2 : World) (n : Nat) (kp : Int → Bool) (L : List (Th Int ByteArray)) (j : Nat) (v : Value) (wr : World) : Prop :=
  j ≤ n ∧ wr.ownsRow w2.heap.size 3 1 v (unw kp (L.take j)).length (kcsI ((unw kp (L.take j)).map Th.k)) ∧ Below w2.heap.size w2 wr
set_option maxRecDepth 4000 in
theorem unwI_any {w : World} {p most m r : Nat} {L : List (Th Int ByteArray)} (h : SH kdI w p most m r L) (a b : Nat) (kp : Int → Bool)
    (HK : ∀ wr k v, Below w.heap.size w wr → Calls Try.prog 17 #[.int .i64 k, .string v, ptr a, ptr b] wr fun e w' => e = .returned (.bool (kp k)) ∧ w' = wr) :
    Calls Try.prog 53 #[ptr p, .func (.func 17) #[] #[ptr a, ptr b]] w fun e w' => ∃ v, e = .returned v ∧ w'.ownsRow w.heap.size 3 1 v (unw kp L).length (kcsI ((unw kp L).map Th.k)) ∧ Below w.heap.size w w' := by
  obtain ⟨B, hB⟩ : ∃ B, B = w.heap.size := ⟨_, rfl⟩
  obtain ⟨n, hn⟩ : ∃ n, n = L.length := ⟨_, rfl⟩
  have HH := hid h
  have HB := hid hB
  have HN := hid hn
  have HKK := hid HK
  rw [← hB]
  clear h hB hn HK
  go_enter Try.func53, Try.ntmps53
  go_wp2_with fail
  refine (keysI_any HH.out).mono ?_
  rintro _ w1 ⟨g, cap, rfl, k1, c1⟩
  have H1 := hid (And.intro k1 c1)
  clear k1 c1
  go_wp2_with fail
  refine (valsI_any (HH.out.below H1.out.2)).mono ?_
  rintro _ w2 ⟨g2, cap2, rfl, k1, c1⟩
  have H2 : Hid (w2.ownsRow w.heap.size 3 1 (.slice (some ⟨g, 0, none⟩) L.length cap) L.length (kcsI (L.map Th.k)) ∧ w2.ownsRow w1.heap.size 9 1 (.slice (some ⟨g2, 0, none⟩) L.length cap2) L.length (vcsI (L.map Th.v)) ∧ Below w.heap.size w w2) :=
    ⟨own_block H1.out.1 (fun x hx => c1.block x (H1.out.1.lt x hx).2), k1, H1.out.2.trans (c1.mono H1.out.2.size)⟩
  clear k1 c1 H1
  rw [← HN.out]
  go_wp2_with fail
  go_loopw [7, 16] (fun v i wr => ∃ j : Nat, i = .int .i64 j ∧ UR w2 n kp L j v wr) (fun _ i _ => n - (intOf i).toNat)
  case atStart => exact ⟨0, rfl, by omega, ⟨rfl, .inl ⟨rfl, rfl⟩⟩, Below.refl _ _⟩
  case round =>
    obtain ⟨j, rfl, e1, e2, e3⟩ := hrel
    by_cases hlt : j < n
    · have hj' : (j : Int) < (n : Int) := by omega
      have hjL : j < L.length := by rw [← HN.out]; exact hlt
      have x1 : wr.cell? ⟨g, j, none⟩ = some (.int .i64 (L[j]'hjL).k) := by
        have h1 := H2.out.1.cells (g := g) rfl j _ (show (kcsI (L.map Th.k))[j]? = some (.int .i64 (L[j]'hjL).k) by rw [kcsI_map]; simp [hjL])
        rw [Addr.add_lit, Nat.zero_add] at h1
        exact (World.cell?_of_block (a := ⟨g, j, none⟩) (e3.block g (H2.out.1.lt g rfl).2)).trans h1
      have x2 : wr.cell? ⟨g2, j, none⟩ = some (.string (L[j]'hjL).v) := by
        have h1 := H2.out.2.1.cells (g := g2) rfl j _ (show (vcsI (L.map Th.v))[j]? = some (.string (L[j]'hjL).v) by rw [vcsI_map]; simp [hjL])
        rw [Addr.add_lit, Nat.zero_add] at h1
        exact (World.cell?_of_block (a := ⟨g2, j, none⟩) (e3.block g2 (H2.out.2.1.lt g2 rfl).2)).trans h1
      have hm20 := HH.out.m20
      have hll := HH.out.len
      have hn20 : n ≤ 1048576 := by rw [HN.out]; omega
      have hwr : wrap64 ((j : Int) + 1) = (j : Int) + 1 := by unfold wrap64; omega
      have hBw : Below w.heap.size w wr := H2.out.2.2.trans (e3.mono H2.out.2.2.size)
      have HC := hid (HKK.out wr (L[j]'hjL).k (L[j]'hjL).v hBw)
      have htk : L.take (j + 1) = L.take j ++ [L[j]'hjL] := by rw [List.take_add_one, List.getElem?_eq_getElem hjL]; rfl
      have hu : unw kp (L.take (j + 1)) = unw kp (L.take j) ++ unw kp [L[j]'hjL] := by rw [htk]; exact List.filter_append _ _
      have hul : (unw kp (L.take j)).length ≤ j := Nat.le_trans (List.length_filter_le _ _) (by simp; omega)
      cases hk : kp (L[j]'hjL).k
      · obtain ⟨w3, hw3⟩ : ∃ w3, wr.alloc (.cells #[.int .i64 (L[j]'hjL).k] 3) = w3 := ⟨_, rfl⟩
        obtain ⟨N, hN⟩ : ∃ N, wr.heap.size = N := ⟨_, rfl⟩
        have hs3 : w2.heap.size ≤ w3.heap.size := by rw [← hw3]; have := e3.size; simp; omega
        obtain ⟨g', cap', w4, hap, ho, hg, hat, hl2⟩ := kappI (w := w3) (B := w2.heap.size) (n := (unw kp (L.take j)).length) (v := u7) (by rw [← hw3]; exact own_block e2 (fun b hb => Below.heap_alloc _ _ _ (e2.lt b hb).2)) hs3 (L[j]'hjL).k (N := N) (by rw [← hw3, ← hN]; exact (MapKept.heap_alloc wr _).1) (by omega)
        have hu1 : unw kp [L[j]'hjL] = [L[j]'hjL] := by simp [unw, hk]
        have HR : Hid (UR w2 n kp L (j + 1) (.slice (some ⟨g', 0, none⟩) ((unw kp (L.take j)).length + 1) cap') w4) := by
          refine ⟨hlt, ?_, ?_⟩
          · rw [hu, hu1, List.length_append, List.map_append]
            rw [show kcsI (List.map Th.k (unw kp (L.take j)) ++ List.map Th.k [L[j]'hjL]) = kcsI (List.map Th.k (unw kp (L.take j))) ++ kcI (L[j]'hjL).k by simp [kcsI]]
            exact ho
          · exact (show Below w2.heap.size w2 w3 by rw [← hw3]; exact e3.alloc e3.size _).grown hg hs3 (fun x hx => (e2.lt x hx).1)
        rw [hk] at HC
        generalize (L[j]'hjL) = t at *
        obtain ⟨b', k, v⟩ := t
        simp only at x1 x2 HC hw3
        clear e1 e2 e3 hm20 hll hn20 hBw htk hu hu1 hul hk hs3 ho hg hat hl2 hlt hjL
        go_wp2_with fail
        refine HC.out.mono ?_
        rintro _ _ ⟨rfl, rfl⟩
        go_wp2_with (at_builtin; refine Hid.out ?_)
        refine (show Hid _ from ?_)
        refine wpList_app rfl _ _ 26 rfl _ _ _ _ rfl rfl (hap _) ?_
        go_wp2
        go_roundw
        case rel => exact ⟨j + 1, by rw [hwr]; rfl, HR.out⟩
        case measure => exact meas hwr hj'
      · have hu1 : unw kp [L[j]'hjL] = [] := by simp [unw, hk]
        have HR : Hid (UR w2 n kp L (j + 1) u7 wr) := by
          refine ⟨hlt, ?_, e3⟩
          rw [hu, hu1, List.append_nil]
          exact e2
        rw [hk] at HC
        generalize (L[j]'hjL) = t at *
        obtain ⟨b', k, v⟩ := t
        simp only at x1 x2 HC
        clear e1 e2 e3 hm20 hll hn20 hBw htk hu hu1 hul hk hlt hjL
        go_wp2_with fail
        refine HC.out.mono ?_
        rintro _ _ ⟨rfl, rfl⟩
        go_wp2
        go_roundw
        case rel => exact ⟨j + 1, by rw [hwr]; rfl, HR.out⟩
        case measure => exact meas hwr hj'
    · obtain rfl : j = n := by omega
      have HR : Hid (wr.ownsRow B 3 1 u7 (unw kp L).length (kcsI ((unw kp L).map Th.k)) ∧ Below B w wr) := by
        rw [List.take_of_length_le (by rw [← HN.out]; exact Nat.le_refl _)] at e2
        rw [HB.out]
        exact ⟨own_mono e2 H2.out.2.2.size, H2.out.2.2.trans (e3.mono H2.out.2.2.size)⟩
      clear e1 e2 e3 hlt
      go_wp2
      go_ret
      exact ⟨_, rfl, HR.out⟩
def wan (kp : Int → Bool) (l : List (Th Int ByteArray)) : List (Th Int ByteArray) := l.filter fun t => kp t.k
theorem unw_split {kp : Int → Bool} {l rest : List (Th Int ByteArray)} {u : Th Int ByteArray} (h : unw kp l = u :: rest) : ∃ A B, l = A ++ u :: B ∧ unw kp (A ++ B) = rest ∧ wan kp (A ++ B) = wan kp l := by
  unfold unw at h
  obtain ⟨A, B, e, h1, h2, h3⟩ := List.filter_eq_cons_iff.1 h
  refine ⟨A, B, e, ?_, ?_⟩
  · unfold unw
    rw [List.filter_append, List.filter_eq_nil_iff.2 h1, List.nil_append]
    exact h3
  · unfold wan
    rw [e, List.filter_append, List.filter_append, List.filter_cons, if_neg (by simp at h2; simp [h2])]
theorem unw_none {kp : Int → Bool} {l : List (Th Int ByteArray)} (h : unw kp l = []) : wan kp l = l := by
  unfold unw at h
  refine List.filter_eq_self.2 fun t ht => ?_
  have := List.filter_eq_nil_iff.1 h t ht
  simpa using this
structure PRR (w w1 : World) (p most m r : Nat) (kp : Int → Bool) (L : List (Th Int ByteArray)) (j : Nat) (wr : World) : Prop where
  le : j ≤ (unw kp L).length
  ex : ∃ Lj, SH kdI wr p most m r Lj ∧ Chg (foot p m r L) (foot p m r Lj) w wr ∧ unw kp Lj = (unw kp L).drop j ∧ wan kp Lj = wan kp L ∧ (∀ t ∈ Lj, t ∈ L)
  sz : w1.heap.size ≤ wr.heap.size
  kept : ∀ x, x < w1.heap.size → w.heap.size ≤ x → wr.heap[x]? = w1.heap[x]?
set_option maxRecDepth 4000 in
theorem pruneI_any {w : World} {p most m r : Nat} {L : List (Th Int ByteArray)} (h : SH kdI w p most m r L) (a b : Nat) (kp : Int → Bool)
    (HK : ∀ wr k v, Below w.heap.size w wr → Calls Try.prog 17 #[.int .i64 k, .string v, ptr a, ptr b] wr fun e w' => e = .returned (.bool (kp k)) ∧ w' = wr) :
    Calls Try.prog 16 #[ptr p, .func (.func 17) #[] #[ptr a, ptr b]] w fun e w' => e = .returned (.int .i64 (unw kp L).length) ∧ SH kdI w' p most m r (wan kp L) ∧ Chg (foot p m r L) (foot p m r (wan kp L)) w w' := by
  obtain ⟨n, hn⟩ : ∃ n, n = (unw kp L).length := ⟨_, rfl⟩
  have HH := hid h
  have HN := hid hn
  have HKK := hid HK
  have HM : Hid (n ≤ 1048576) := by
    have h1 := h.m20
    have h2 := h.len
    have h3 : (unw kp L).length ≤ L.length := List.length_filter_le _ _
    show n ≤ 1048576
    omega
  rw [← hn]
  clear h hn HK
  go_enter Try.func16, Try.ntmps16
  go_wp2_with fail
  refine (unwI_any HH.out a b kp HKK.out).mono ?_
  rintro _ w1 ⟨v, rfl, k1, c1⟩
  obtain ⟨oa, cap, hv⟩ : ∃ oa cap, v = .slice oa n cap := by
    rcases k1.2 with ⟨e1, e2⟩ | ⟨g, cap, _, e1, _⟩
    · exact ⟨none, 0, by rw [HN.out, e2]; exact e1⟩
    · exact ⟨_, cap, by rw [HN.out]; exact e1⟩
  have H1 := hid (And.intro k1 c1)
  have HV := hid hv
  subst hv
  clear k1 c1
  go_wp2_with fail
  go_loopw [5, 12] (fun gn i wr => ∃ j : Nat, i = .int .i64 j ∧ gn = .int .i64 j ∧ PRR w w1 p most m r kp L j wr) (fun _ i _ => n - (intOf i).toNat)
  case atStart => exact ⟨0, rfl, rfl, Nat.zero_le _, ⟨L, HH.out.below H1.out.2, Chg.of_below _ H1.out.2, rfl, rfl, fun _ h => h⟩, Nat.le_refl _, fun _ _ _ => rfl⟩
  case round =>
    obtain ⟨j, rfl, rfl, hp⟩ := hrel
    by_cases hlt : j < n
    · have hj' : (j : Int) < (n : Int) := by omega
      have hjU : j < (unw kp L).length := by rw [← HN.out]; exact hlt
      obtain ⟨Lj, s1, s2, s3, s4, s5⟩ := hp.ex
      rw [List.drop_eq_getElem_cons hjU] at s3
      obtain ⟨A, B, q1, q2, q3⟩ := unw_split s3
      have hwr : wrap64 ((j : Int) + 1) = (j : Int) + 1 := by have := HM.out; unfold wrap64; omega
      obtain ⟨g, hg⟩ : ∃ g, oa = some ⟨g, 0, none⟩ := by
        rcases H1.out.1.2 with ⟨_, e2⟩ | ⟨g, _, _, e1, _⟩
        · omega
        · injection e1 with e1; exact ⟨g, e1⟩
      subst hg
      have x1 : wr.cell? ⟨g, j, none⟩ = some (.int .i64 ((unw kp L)[j]'hjU).k) := by
        have h1 := H1.out.1.cells (g := g) rfl j _ (show (kcsI ((unw kp L).map Th.k))[j]? = some (.int .i64 ((unw kp L)[j]'hjU).k) by rw [kcsI_map]; simp [hjU])
        rw [Addr.add_lit, Nat.zero_add] at h1
        exact (World.cell?_of_block (a := ⟨g, j, none⟩) (hp.kept g (H1.out.1.lt g rfl).2 (H1.out.1.lt g rfl).1)).trans h1
      generalize ((unw kp L)[j]'hjU) = t at *
      subst q1
      have D := hid (dropI_some s1)
      have HR : Hid (∀ w', SH kdI w' p most m r (A ++ B) → Chg (foot p m r (A ++ t :: B)) (foot p m r (A ++ B)) wr w' → PRR w w1 p most m r kp L (j + 1) w') := by
        intro w' d1 d2
        refine ⟨hjU, ⟨A ++ B, d1, s2.trans d2, q2, q3.trans s4, fun x hx => s5 x (by rcases List.mem_append.1 hx with h6 | h6 <;> simp [h6])⟩, Nat.le_trans hp.sz d2.size, fun x hx hx2 => ?_⟩
        refine (d2.kept x (Nat.lt_of_lt_of_le hx hp.sz) (fun e => ?_)).trans (hp.kept x hx hx2)
        have : x ∈ foot p m r L := by
          simp only [List.mem_cons, List.mem_map] at e ⊢
          rcases e with e | e | e | ⟨y, hy, e⟩
          · exact .inl e
          · exact .inr (.inl e)
          · exact .inr (.inr (.inl e))
          · exact .inr (.inr (.inr ⟨y, s5 y hy, e⟩))
        have := HH.out.lt x this
        omega
      obtain ⟨b', k, v⟩ := t
      simp only at x1 D
      clear s1 s2 s3 s4 s5 q2 q3 hp hlt hjU
      go_wp2_with fail
      refine D.out.mono ?_
      rintro _ w3 ⟨rfl, d1, d2⟩
      have HR2 := hid (HR.out w3 d1 d2)
      clear d1 d2 HR D
      go_wp2
      go_roundw
      case rel => exact ⟨j + 1, by rw [hwr]; rfl, by rw [hwr]; rfl, HR2.out⟩
      case measure => exact meas hwr hj'
    · obtain rfl : j = n := by have := hp.le; have := HN.out; omega
      have HR : Hid (SH kdI wr p most m r (wan kp L) ∧ Chg (foot p m r L) (foot p m r (wan kp L)) w wr) := by
        obtain ⟨Lj, s1, s2, s3, s4, s5⟩ := hp.ex
        rw [List.drop_of_length_le (by rw [← HN.out]; exact Nat.le_refl _)] at s3
        rw [← s4, unw_none s3]
        exact ⟨s1, s2⟩
      clear hp hlt
      go_wp2
      go_ret
      exact ⟨rfl, HR.out⟩
end Go.Proofs.Ythhddpobnkmeaaa
namespace Go.Proofs.Ythhddpobnkmeaaa
open Go.RowKit
/-- a row of one's own whose block bears a tag -/
structure RowT (K : Nat → Nat) (w : World) (B : Nat) (e : TypeId) (t : Nat) (v : Value) (n : Nat) (xs : List Value) : Prop where
  own : w.ownsRow B e 1 v n xs
  k : ∀ g, v.ownBlock = some g → K g = t
section
variable {K K' : Nat → Nat} {w w' : World} {B n t : Nat} {e : TypeId} {v : Value} {xs : List Value}
theorem RowT.mv {T : Nat → Prop} (h : RowT K w B e t v n xs) (m : Mv T w w' K K') (ht : ¬ T t) : RowT K' w' B e t v n xs :=
  ⟨own_block h.own (fun g hg => m.kept g (h.own.lt g hg).2 (by rw [h.k g hg]; exact ht)), fun g hg => (m.old g (h.own.lt g hg).2).trans (h.k g hg)⟩
theorem RowT.nil (K : Nat → Nat) (w : World) (B : Nat) (e : TypeId) (t : Nat) : RowT K w B e t (.slice none 0 0) 0 [] := ⟨⟨rfl, .inl ⟨rfl, rfl⟩⟩, fun g hg => by cases hg⟩
theorem RowT.form (h : RowT K w B e t v n xs) : ∃ oa cap, v = .slice oa n cap ∧ n ≤ cap ∧ (0 < n → ∃ g, oa = some ⟨g, 0, none⟩) := by
  rcases h.own.2 with ⟨e1, e2⟩ | ⟨g, cap, _, e1, _, _, e4, _⟩
  · exact ⟨none, 0, by rw [e2]; exact e1, by omega, fun h => by omega⟩
  · exact ⟨_, cap, e1, e4, fun _ => ⟨g, rfl⟩⟩
theorem RowT.len (h : RowT K w B e t v n xs) : xs.length = n := by have := h.own.1; simpa using this
theorem RowT.app {ty : TypeId} {i : TypeInfo} {z : Value} {bytes : Nat} (hty : Try.prog.underlying ty = some (.slice e)) (hi : Try.prog.info? e = some i) (hz : i.zero = some z) (hs : i.size = 1) (hby : i.bytes = bytes) (hzs : z.cells.size = 1)
    (h : RowT K w B e t v n xs) (hB : B ≤ w.heap.size) (a : Addr) (m c : Nat) (news : List Value) (hl : news.length = m) (hnews : ∀ j u, news[j]? = some u → w.cell? (a.add j) = some u) (h1 : ∀ u ∈ news, u.oneCell' = true) (hm : n + m ≤ 1000000000) (hb : bytes ≤ 100) :
    ∃ v' w' K', (∀ r, (Builtin.append_ #[ty, ty] r #[v, .slice (some a) m c]).run Try.prog w = .ok v' w') ∧ RowT K' w' B e t v' (n + m) (xs ++ news) ∧ Mv (fun x => x = t) w w' K K' := by
  obtain ⟨v', w', hr, ho, hg, _, hat⟩ := run_append_own_at (P := Try.prog) w B ty 0 e i z 1 bytes hty hi hz hs hby hzs (by omega) v n xs h.own a m c news (by omega) hnews h1 (by unfold maxLen; omega) (Nat.le_trans (Nat.mul_le_mul hm hb) (by omega)) hB
  refine ⟨v', w', ext w K (fun _ => t), fun r => hr, ⟨ho, fun g hg2 => ?_⟩, ⟨hg.os, hg.tape, hg.output, hg.size, fun _ hb => ext_old hb, fun b hb ht => hg.block b hb (fun e2 => ht (h.k b e2.symm))⟩⟩
  rcases hat with e2 | e2
  · rw [e2] at hg2
    have := (h.own.lt g hg2).2
    rw [ext_old this]; exact h.k g hg2
  · rw [e2] at hg2
    cases hg2
    exact ext_new (Nat.le_refl _)
end
theorem appI {K : Nat → Nat} {w : World} {B n t : Nat} {v : Value} {xs : List Value} (h : RowT K w B 3 t v n xs) (hB : B ≤ w.heap.size) (a : Addr) (m c : Nat) (l : List Int) (hl : l.length = m) (hnews : ∀ j u, (l.map (Value.int .i64))[j]? = some u → w.cell? (a.add j) = some u) (hm : n + m ≤ 1000000000) :
    ∃ v' w' K', (∀ r, (Builtin.append_ #[26, 26] r #[v, .slice (some a) m c]).run Try.prog w = .ok v' w') ∧ RowT K' w' B 3 t v' (n + m) (xs ++ l.map (Value.int .i64)) ∧ Mv (fun x => x = t) w w' K K' := by
  obtain ⟨i, hi, hz, hs, hby⟩ := kinfoI
  exact h.app Try.underlying26 hi hz hs hby rfl hB a m c _ (by simpa using hl) hnews (fun u hu => by obtain ⟨x, _, rfl⟩ := List.mem_map.1 hu; rfl) hm (by omega)
theorem appS {K : Nat → Nat} {w : World} {B n t : Nat} {v : Value} {xs : List Value} (h : RowT K w B 9 t v n xs) (hB : B ≤ w.heap.size) (a : Addr) (m c : Nat) (l : List ByteArray) (hl : l.length = m) (hnews : ∀ j u, (l.map Value.string)[j]? = some u → w.cell? (a.add j) = some u) (hm : n + m ≤ 1000000000) :
    ∃ v' w' K', (∀ r, (Builtin.append_ #[53, 53] r #[v, .slice (some a) m c]).run Try.prog w = .ok v' w') ∧ RowT K' w' B 9 t v' (n + m) (xs ++ l.map Value.string) ∧ Mv (fun x => x = t) w w' K K' := by
  obtain ⟨i, hi, hz, hs, hby⟩ := vinfoI
  exact h.app Try.underlying53 hi hz hs hby rfl hB a m c _ (by simpa using hl) hnews (fun u hu => by obtain ⟨x, _, rfl⟩ := List.mem_map.1 hu; rfl) hm (by omega)
structure ActR where
  kind : Int
  k : Int
  n : Int
/-- a script that lies in memory -/
structure ActsAt (w : World) (b off len : Nat) (O : Nat → ActR) : Prop where
  c0 : ∀ i, i < len → w.cell? ⟨b, off + i * 3, none⟩ = some (.int .i64 (O i).kind)
  c1 : ∀ i, i < len → w.cell? ⟨b, off + i * 3 + 1, none⟩ = some (.int .i64 (O i).k)
  c2 : ∀ i, i < len → w.cell? ⟨b, off + i * 3 + 2, none⟩ = some (.int .i64 (O i).n)
  k : ∀ i, i < len → -9223372036854775808 ≤ (O i).k ∧ (O i).k ≤ 9223372036854775807
  n : ∀ i, i < len → -9223372036854775808 ≤ (O i).n ∧ (O i).n ≤ 9223372036854775807
theorem ActsAt.lt {w : World} {b off len : Nat} {O : Nat → ActR} (h : ActsAt w b off len O) (hl : 0 < len) : b < w.heap.size := by
  have := h.c0 0 hl
  unfold World.cell? at this
  by_cases hb : b < w.heap.size
  · exact hb
  · simp only at this
    rw [show w.heap[b]? = none from Array.getElem?_eq_none (by omega)] at this
    simp at this
theorem ActsAt.below {w w' : World} {b off len : Nat} {O : Nat → ActR} (h : ActsAt w b off len O) (hB : Below w.heap.size w w') : ActsAt w' b off len O := by
  rcases Nat.eq_zero_or_pos len with h0 | h0
  · exact ⟨fun i hi => by omega, fun i hi => by omega, fun i hi => by omega, h.k, h.n⟩
  · have hb := hB.block b (h.lt h0)
    exact ⟨fun i hi => (World.cell?_of_block (a := ⟨b, _, none⟩) hb).trans (h.c0 i hi), fun i hi => (World.cell?_of_block (a := ⟨b, _, none⟩) hb).trans (h.c1 i hi), fun i hi => (World.cell?_of_block (a := ⟨b, _, none⟩) hb).trans (h.c2 i hi), h.k, h.n⟩
theorem keep_any {w : World} {a b sb off len cap i : Nat} {O : Nat → ActR} (ho : ActsAt w sb off len O) (hi : i < len) (ha : w.cell? ⟨a, 0, none⟩ = some (.slice (some ⟨sb, off, none⟩) len cap)) (hb : w.cell? ⟨b, 0, none⟩ = some (.int .i64 i)) (k : Int) (v : ByteArray) :
    Calls Try.prog 17 #[.int .i64 k, .string v, ptr a, ptr b] w fun e w' => e = .returned (.bool (decide (pickP (O i).n 16 ≤ k))) ∧ w' = w := by
  have hn := ho.n i hi
  have H := hid (pick_any (O i).n 16 w hn.1 hn.2 (by omega) (by omega))
  have x := ho.c2 i hi
  have hi' : (i : Int) < (len : Int) := by omega
  generalize (O i).n = N at *
  generalize pickP N 16 = P at *
  clear ho hn hi
  go_enter Try.func17, Try.ntmps17
  go_wp2_with fail
  refine H.out.mono ?_
  rintro _ _ ⟨rfl, rfl⟩
  go_wp2
  go_ret
  exact ⟨rfl, rfl⟩
end Go.Proofs.Ythhddpobnkmeaaa
namespace Go.Proofs.Ythhddpobnkmeaaa
open Go.RowKit
abbrev Tt := Th Int ByteArray
/-- the shelf, the two lists, the script's variable, the step's number -/
structure SB (W : World) (oa : Option Addr) (len cap p room m r a b i : Nat) (K : Nat → Nat) (w : World) (v9 v10 : Value) (L : List Tt) (tk tv : Nat) : Prop where
  bs : BS W w K
  ts : TS kdI K w 1 p room m r L
  ks : RowT K w W.heap.size 3 tk v9 L.length (L.map fun t => .int .i64 t.k)
  vs : RowT K w W.heap.size 9 tv v10 L.length (L.map fun t => .string t.v)
  pa : TB K w 4 a (.cells #[.slice oa len cap] 49)
  pi : TB K w 5 b (.cells #[.int .i64 i] 3)
  tg : 10 ≤ tk ∧ 10 ≤ tv ∧ tk ≠ tv
section
variable {W : World} {oa : Option Addr} {len cap p room m r a b i : Nat} {K K' : Nat → Nat} {w w' : World} {v9 v10 : Value} {L L' : List Tt} {tk tv : Nat}
theorem SB.mv {T : Nat → Prop} (h : SB W oa len cap p room m r a b i K w v9 v10 L tk tv) (mv : Mv T w w' K K') (t0 : ¬ T 0) (t1 : ¬ T 1) (t4 : ¬ T 4) (t5 : ¬ T 5) (tk_ : ¬ T tk) (tv_ : ¬ T tv) : SB W oa len cap p room m r a b i K' w' v9 v10 L tk tv :=
  ⟨h.bs.mv mv t0, h.ts.mv mv t1, h.ks.mv mv tk_, h.vs.mv mv tv_, h.pa.mv mv t4, h.pi.mv mv t5, h.tg⟩
theorem SB.below (h : SB W oa len cap p room m r a b i K w v9 v10 L tk tv) (hB : Below w.heap.size w w') (N : Nat → Nat) : SB W oa len cap p room m r a b i (ext w K N) w' v9 v10 L tk tv := h.mv (Mv.of_below hB K N) id id id id id id
theorem SB.sz (h : SB W oa len cap p room m r a b i K w v9 v10 L tk tv) : W.heap.size ≤ w.heap.size := h.bs.be.size
theorem SB.mx (h : SB W oa len cap p room m r a b i K w v9 v10 L tk tv) : L.length ≤ 1048576 := Nat.le_trans h.ts.sh.len h.ts.sh.m20
theorem SB.c11 (h : SB W oa len cap p room m r a b i K w v9 v10 L tk tv) : w.cell? ⟨b, 0, none⟩ = some (.int .i64 i) := by unfold World.cell?; rw [h.pi.at_]; rfl
theorem SB.f11 (h : SB W oa len cap p room m r a b i K w v9 v10 L tk tv) : w.frozen? ⟨b, 0, none⟩ = false := by unfold World.frozen?; rw [h.pi.at_]; rfl
theorem SB.c3 (h : SB W oa len cap p room m r a b i K w v9 v10 L tk tv) : w.cell? ⟨a, 0, none⟩ = some (.slice oa len cap) := by unfold World.cell?; rw [h.pa.at_]; rfl
end
/-- the number that a pointer leads to -/
def numAt (u : Value) (w : World) : Nat :=
  match u with
  | .pointer (some a) => match w.cell? a with
    | some (.int _ q) => q.toNat
    | _ => 0
  | _ => 0
theorem numAt_is {w : World} {b i : Nat} (h : w.cell? ⟨b, 0, none⟩ = some (.int .i64 (i : Int))) : numAt (ptr b) w = i := by
  unfold numAt
  simp [h]
/-- none of the first j is under k -/
def FS (L : List Tt) (k : Int) (j : Nat) : Prop := ∀ x t, x < j → L[x]? = some t → t.k ≠ k
theorem FS.step {L : List Tt} {k : Int} {j : Nat} (h : FS L k j) (hj : j < L.length) (hk : (L[j]'hj).k ≠ k) : FS L k (j + 1) := by
  intro x t hx ht
  by_cases e : x = j
  · subst e
    rw [List.getElem?_eq_getElem hj] at ht
    cases ht
    exact hk
  · exact h x t (by omega) ht
theorem FS.all {L : List Tt} {k : Int} (h : FS L k L.length) : ∀ t ∈ L, t.k ≠ k := by
  intro t ht
  obtain ⟨x, hx, e⟩ := List.getElem_of_mem ht
  exact h x t hx (by rw [List.getElem?_eq_getElem hx, e])
theorem cut_at {L : List Tt} {j : Nat} (hj : j < L.length) : L = L.take j ++ (L[j]'hj) :: L.drop (j + 1) := by
  rw [← List.drop_eq_getElem_cons hj, List.take_append_drop]
theorem SB.next {W : World} {oa : Option Addr} {len cap p room m r a b i : Nat} {K : Nat → Nat} {w : World} {v9 v10 : Value} {L : List Tt} {tk tv : Nat} (h : SB W oa len cap p room m r a b i K w v9 v10 L tk tv) :
    SB W oa len cap p room m r a w.heap.size (i + 1) (ext w K (fun _ => 5)) (w.alloc (.cells #[.int .i64 ((i : Int) + 1)] 3)) v9 v10 L tk tv := by
  have v1 := Mv.alloc w K (fun _ => 5) (.cells #[.int .i64 ((i : Int) + 1)] 3)
  have h2 := h.mv v1 id id id id id id
  exact ⟨h2.bs, h2.ts, h2.ks, h2.vs, h2.pa, TB.new w K (fun _ => 5) _ (t := 5) rfl, h2.tg⟩
theorem meas2 {len i : Nat} {x y : Nat} (hx : x = i + 1) (hy : y = i) (h : i < len) : len - x < len - y := by omega
theorem SB.drew {W : World} {oa : Option Addr} {len cap p room m r a b i : Nat} {K : Nat → Nat} {w : World} {v9 v10 : Value} {L : List Tt} {tk tv : Nat} (h : SB W oa len cap p room m r a b i K w v9 v10 L tk tv) : SB W oa len cap p room m r a b i K w.drew v9 v10 L tk tv :=
  h.mv (Mv.drew (fun _ => False) w K) id id id id id id
/-- at the end of a step: the state, and the keys that were told -/
def TQ (W : World) (oa : Option Addr) (len cap p room m r a b i : Nat) (K : Nat → Nat) (w : World) (v9 v10 : Value) (L : List Tt) (tk tv B : Nat) (v22 : Value) : Prop :=
  SB W oa len cap p room m r a b i K w v9 v10 L tk tv ∧ w.ownsRow B 3 1 v22 L.length (kcsI (L.map Th.k))
theorem TQ.drewN {W : World} {oa : Option Addr} {len cap p room m r a b i : Nat} {K : Nat → Nat} {w : World} {v9 v10 : Value} {L : List Tt} {tk tv B : Nat} {v22 : Value} (h : TQ W oa len cap p room m r a b i K w v9 v10 L tk tv B v22) (n : Nat) : TQ W oa len cap p room m r a b i K (w.drewN n) v9 v10 L tk tv B v22 :=
  ⟨h.1.mv (⟨rfl, rfl, rfl, Nat.le_refl _, fun _ _ => rfl, fun _ _ _ => rfl⟩ : Mv (fun _ => False) w (w.drewN n) K K) id id id id id id, own_block h.2 (fun _ _ => rfl)⟩
theorem conv_two {w : World} {N : Nat} {a b : Int} (h : w.heap[N]? = some (.cells #[.int .u8 a, .int .u8 b] 5)) : ∃ X, (convert 59 9 (.slice (some ⟨N, 0, none⟩) 2 2)).run Try.prog w = .ok (.string X) w := by
  have c0 : w.cell? ⟨N, 0, none⟩ = some (.int .u8 a) := by unfold World.cell?; rw [h]; rfl
  have c1 : w.cell? ⟨N, 1, none⟩ = some (.int .u8 b) := by unfold World.cell?; rw [h]; rfl
  rw [run_convert_bytes_string w 59 9 5 _ _ _ Try.underlying59 Try.underlying5 Try.underlying9]
  refine ⟨_, run_bytesToString w ⟨N, 0, none⟩ 2 2 [a, b] ?_⟩
  simp [loadCells, loadCellsFrom, Addr.add_lit, c0, c1, go_sem]
section
variable {W : World} {oa : Option Addr} {len cap p room m r a b i : Nat} {K K' : Nat → Nat} {w w' : World} {v9 v10 : Value} {L L' : List Tt} {tk tv : Nat}
/-- behind a call of the shelf -/
theorem SB.shelf (h : SB W oa len cap p room m r a b i K w v9 v10 L tk tv) (s : SH kdI w' p room m r L') (c : Chg (foot p m r L) (foot p m r L') w w') :
    ∃ K', BS W w' K' ∧ TS kdI K' w' 1 p room m r L' ∧ RowT K' w' W.heap.size 3 tk v9 L.length (L.map fun t => .int .i64 t.k) ∧ RowT K' w' W.heap.size 9 tv v10 L.length (L.map fun t => .string t.v) ∧ TB K' w' 4 a (.cells #[.slice oa len cap] 49) ∧ TB K' w' 5 b (.cells #[.int .i64 i] 3) := by
  obtain ⟨K', t1, mv⟩ := h.ts.chg s c
  have tg := h.tg
  exact ⟨K', h.bs.mv mv (by simp), t1, h.ks.mv mv (by omega), h.vs.mv mv (by omega), h.pa.mv mv (by simp), h.pi.mv mv (by simp)⟩
theorem SB.same (h : SB W oa len cap p room m r a b i K w v9 v10 L tk tv) (s : SH kdI w' p room m r L) (c : Chg (foot p m r L) (foot p m r L) w w') : ∃ K', SB W oa len cap p room m r a b i K' w' v9 v10 L tk tv := by
  obtain ⟨K', a1, a2, a3, a4, a5, a6⟩ := h.shelf s c
  exact ⟨K', a1, a2, a3, a4, a5, a6, h.tg⟩
end
theorem size3 (w : World) : (sizeOf 3).run Try.prog w = .ok 1 w := by kernel_rfl
theorem size9 (w : World) : (sizeOf 9).run Try.prog w = .ok 1 w := by kernel_rfl
theorem slice_head26 (w : World) (g n c j : Nat) (h : j ≤ c) : (Instr.slice 26 (.slice (some ⟨g, 0, none⟩) n c) none (some (.int .i64 (j : Int))) none).run Try.prog w = .ok (.slice (some ⟨g, 0, none⟩) j c) w := by
  rw [run_slice_h w 26 _ n c (by kernel_rfl) .i64 j (by omega) (by omega), show Try.prog.elem 26 = 3 by kernel_rfl, size3]
  simp [Result.andThen, sliced, Addr.add_lit]
theorem slice_head53 (w : World) (g n c j : Nat) (h : j ≤ c) : (Instr.slice 53 (.slice (some ⟨g, 0, none⟩) n c) none (some (.int .i64 (j : Int))) none).run Try.prog w = .ok (.slice (some ⟨g, 0, none⟩) j c) w := by
  rw [run_slice_h w 53 _ n c (by kernel_rfl) .i64 j (by omega) (by omega), show Try.prog.elem 53 = 9 by kernel_rfl, size9]
  simp [Result.andThen, sliced, Addr.add_lit]
theorem slice_tail26 (g n c l : Nat) (h : l ≤ n) (hn : n ≤ c) : ∃ a9, (∀ w, (Instr.slice 26 (.slice (some ⟨g, 0, none⟩) n c) (some (.int .i64 (l : Int))) none none).run Try.prog w = .ok (.slice (some a9) (n - l) (c - l)) w) ∧ (l < n → a9 = ⟨g, l, none⟩) := by
  refine ⟨if c = l then ⟨g, 0, none⟩ else ⟨g, l, none⟩, fun w => ?_, fun h => by rw [if_neg (by omega)]⟩
  rw [run_slice_l w 26 _ n c (by kernel_rfl) .i64 l (by omega) (by omega), show Try.prog.elem 26 = 3 by kernel_rfl, size3]
  by_cases e : c = l <;> simp [Result.andThen, sliced, Addr.add_lit, e]
theorem slice_tail53 (g n c l : Nat) (h : l ≤ n) (hn : n ≤ c) : ∃ a9, (∀ w, (Instr.slice 53 (.slice (some ⟨g, 0, none⟩) n c) (some (.int .i64 (l : Int))) none none).run Try.prog w = .ok (.slice (some a9) (n - l) (c - l)) w) ∧ (l < n → a9 = ⟨g, l, none⟩) := by
  refine ⟨if c = l then ⟨g, 0, none⟩ else ⟨g, l, none⟩, fun w => ?_, fun h => by rw [if_neg (by omega)]⟩
  rw [run_slice_l w 53 _ n c (by kernel_rfl) .i64 l (by omega) (by omega), show Try.prog.elem 53 = 9 by kernel_rfl, size9]
  by_cases e : c = l <;> simp [Result.andThen, sliced, Addr.add_lit, e]
theorem tail_at {α β : Type} (f : α → β) (A B : List α) (t : α) (x : Nat) : ((A ++ t :: B).map f)[A.length + 1 + x]? = (B.map f)[x]? := by
  rw [List.map_append, List.getElem?_append_right (by simp; omega), List.length_map, show A.length + 1 + x - A.length = x + 1 by omega, List.map_cons, List.getElem?_cons_succ]
/-- while what is kept is gathered: of the first x -/
structure P3 (W : World) (oa : Option Addr) (len cap p room m r a b i : Nat) (K : Nat → Nat) (w : World) (v9 v10 : Value) (L : List Tt) (tk tv : Nat) (kp : Int → Bool) (x : Nat) (u15 u16 : Value) : Prop where
  bs : BS W w K
  ts : TS kdI K w 1 p room m r (wan kp L)
  ks : RowT K w W.heap.size 3 tk v9 L.length (L.map fun t => .int .i64 t.k)
  vs : RowT K w W.heap.size 9 tv v10 L.length (L.map fun t => .string t.v)
  pa : TB K w 4 a (.cells #[.slice oa len cap] 49)
  pi : TB K w 5 b (.cells #[.int .i64 i] 3)
  l : RowT K w W.heap.size 3 (tk + tv + 20) u15 (wan kp (L.take x)).length ((wan kp (L.take x)).map fun t => .int .i64 t.k)
  m : RowT K w W.heap.size 9 (tk + tv + 21) u16 (wan kp (L.take x)).length ((wan kp (L.take x)).map fun t => .string t.v)
section
variable {W : World} {oa : Option Addr} {len cap p room m r a b i : Nat} {K K' : Nat → Nat} {w w' : World} {v9 v10 : Value} {L : List Tt} {tk tv : Nat} {kp : Int → Bool} {x : Nat} {u15 u16 : Value}
theorem P3.mv {T : Nat → Prop} (h : P3 W oa len cap p room m r a b i K w v9 v10 L tk tv kp x u15 u16) (mv : Mv T w w' K K') (t0 : ¬ T 0) (t1 : ¬ T 1) (t4 : ¬ T 4) (t5 : ¬ T 5) (tk_ : ¬ T tk) (tv_ : ¬ T tv) (tl : ¬ T (tk + tv + 20)) (tm : ¬ T (tk + tv + 21)) : P3 W oa len cap p room m r a b i K' w' v9 v10 L tk tv kp x u15 u16 :=
  ⟨h.bs.mv mv t0, h.ts.mv mv t1, h.ks.mv mv tk_, h.vs.mv mv tv_, h.pa.mv mv t4, h.pi.mv mv t5, h.l.mv mv tl, h.m.mv mv tm⟩
theorem P3.drewN (h : P3 W oa len cap p room m r a b i K w v9 v10 L tk tv kp x u15 u16) (n : Nat) : P3 W oa len cap p room m r a b i K (w.drewN n) v9 v10 L tk tv kp x u15 u16 :=
  h.mv (⟨rfl, rfl, rfl, Nat.le_refl _, fun _ _ => rfl, fun _ _ _ => rfl⟩ : Mv (fun _ => False) w (w.drewN n) K K) id id id id id id id id
theorem wan_take (kp : Int → Bool) (L : List Tt) (x : Nat) (hx : x < L.length) : wan kp (L.take (x + 1)) = wan kp (L.take x) ++ (if kp (L[x]'hx).k = true then [L[x]'hx] else []) := by
  rw [List.take_add_one, List.getElem?_eq_getElem hx]
  unfold wan
  rw [List.filter_append]
  congr 1
  by_cases e : kp (L[x]'hx).k = true <;> simp [e]
theorem P3.no (h : P3 W oa len cap p room m r a b i K w v9 v10 L tk tv kp x u15 u16) (hx : x < L.length) (hk : kp (L[x]'hx).k = false) : P3 W oa len cap p room m r a b i K w v9 v10 L tk tv kp (x + 1) u15 u16 := by
  have e : wan kp (L.take (x + 1)) = wan kp (L.take x) := by rw [wan_take kp L x hx, if_neg (by simp [hk]), List.append_nil]
  exact ⟨h.bs, h.ts, h.ks, h.vs, h.pa, h.pi, by rw [e]; exact h.l, by rw [e]; exact h.m⟩
theorem P3.yes (h : P3 W oa len cap p room m r a b i K w v9 v10 L tk tv kp x u15 u16) (hx : x < L.length) (hk : kp (L[x]'hx).k = true) (hL : L.length ≤ 1048576) (tg : 10 ≤ tk ∧ 10 ≤ tv ∧ tk ≠ tv) :
    ∃ v15 v16 w6 w8 K', (∀ t, (Builtin.append_ #[26, 26] t #[u15, .slice (some ⟨w.heap.size, 0, none⟩) 1 1]).run Try.prog (w.alloc (.cells #[.int .i64 (L[x]'hx).k] 3)) = .ok v15 w6) ∧ (∀ t, (Builtin.append_ #[53, 53] t #[u16, .slice (some ⟨w6.heap.size, 0, none⟩) 1 1]).run Try.prog (w6.alloc (.cells #[.string (L[x]'hx).v] 9)) = .ok v16 w8) ∧
      w6.cell? ⟨b, 0, none⟩ = w.cell? ⟨b, 0, none⟩ ∧ (∀ q, q < W.heap.size ∨ K q = tv → q < w.heap.size → w6.heap[q]? = w.heap[q]?) ∧ P3 W oa len cap p room m r a b i K' w8 v9 v10 L tk tv kp (x + 1) v15 v16 := by
  have hn : (wan kp (L.take x)).length ≤ 1048576 := Nat.le_trans (List.length_filter_le _ _) (by simp; omega)
  have v5 := Mv.alloc w K (fun _ => 9) (.cells #[.int .i64 (L[x]'hx).k] 3)
  have h5 := h.mv v5 id id id id id id id id
  have b5 : (w.alloc (.cells #[.int .i64 (L[x]'hx).k] 3)).heap[w.heap.size]? = some (.cells #[.int .i64 (L[x]'hx).k] 3) := (MapKept.heap_alloc w _).1
  obtain ⟨v15, w6, K6, r6, t6, v6⟩ := appI h5.l h5.bs.be.size ⟨w.heap.size, 0, none⟩ 1 1 [(L[x]'hx).k] rfl (World.news_of_block b5) (by omega)
  have v7 := Mv.alloc w6 K6 (fun _ => 9) (.cells #[.string (L[x]'hx).v] 9)
  have b7 : (w6.alloc (.cells #[.string (L[x]'hx).v] 9)).heap[w6.heap.size]? = some (.cells #[.string (L[x]'hx).v] 9) := (MapKept.heap_alloc w6 _).1
  have m6 := (h5.m.mv v6 (by omega)).mv v7 id
  obtain ⟨v16, w8, K8, r8, t8, v8⟩ := appS m6 (Nat.le_trans h5.bs.be.size (Nat.le_trans v6.size v7.size)) ⟨w6.heap.size, 0, none⟩ 1 1 [(L[x]'hx).v] rfl (World.news_of_block b7) (by omega)
  have e : wan kp (L.take (x + 1)) = wan kp (L.take x) ++ [L[x]'hx] := by rw [wan_take kp L x hx, if_pos hk]
  have vv : Mv (fun y => y = tk + tv + 20 ∨ y = tk + tv + 21) _ w8 _ K8 := ((v6.mono (fun _ h => .inl h)).trans (v7.mono (fun _ h => h.elim))).trans (v8.mono (fun _ h => .inr h))
  refine ⟨v15, v16, w6, w8, K8, r6, r8, ?_, ?_, ⟨h5.bs.mv vv (by omega), h5.ts.mv vv (by omega), h5.ks.mv vv (by omega), h5.vs.mv vv (by omega), h5.pa.mv vv (by omega), h5.pi.mv vv (by omega), ?_, ?_⟩⟩
  · have h9 := (v6.kept b h5.pi.lt (by rw [h5.pi.k]; omega)).trans (Below.heap_alloc w _ b h.pi.lt)
    exact World.cell?_of_block (a := ⟨b, 0, none⟩) h9
  · intro q hq hlt
    refine (v6.kept q (Nat.lt_of_lt_of_le hlt v5.size) ?_).trans (Below.heap_alloc w _ q hlt)
    rw [v5.old q hlt]
    rcases hq with hq | hq
    · rw [h.bs.k0 q hq]; omega
    · omega
  · rw [e]
    have h9 := ((t6.mv v7 id).mv v8 (by omega))
    simpa using h9
  · rw [e]
    simpa using t8
end
theorem unw_wan (kp : Int → Bool) (L : List Tt) : (unw kp L).length + (wan kp L).length = L.length := by
  induction L with
  | nil => rfl
  | cons t L ih =>
    unfold unw wan at ih ⊢
    by_cases e : kp t.k = true <;> simp [e] <;> omega
end Go.Proofs.Ythhddpobnkmeaaa
