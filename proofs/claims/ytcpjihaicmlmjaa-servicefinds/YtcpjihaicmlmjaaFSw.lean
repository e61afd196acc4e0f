/- Services: ServiceFinds. -/
import Derived.Test.YtcpjihaicmlmjaaFSu
namespace Go.Proofs.Ytcpjihaicmlmjaa
open Go.RowKit
theorem meas6 {n j : Nat} {q : Int} (hq : q = (j : Int) + 1) (hj : j < n) : n - (intOf (.int .i64 q)).toNat < n - (intOf (.int .i64 (j : Int))).toNat := meas hq (by omega)
theorem take_in (l : List Int) (v : Int) (j : Nat) (h : j < l.length) : decide (v ∈ l.take (j + 1)) = (decide (v ∈ l.take j) || (l.getD j 0 == v)) := by
  rw [List.take_add_one, List.getD_eq_getElem?_getD, List.getElem?_eq_getElem h]
  simp only [Option.toList_some, List.mem_append, List.mem_singleton, Option.getD_some]
  rw [show (l[j] == v) = decide (l[j] = v) from rfl]
  by_cases a : v ∈ l.take j
  · simp [a]
  · simp [a, eq_comm]
theorem take_fold (f : Int → Int → Int) (l : List Int) (a : Int) (j : Nat) (h : j < l.length) : (l.take (j + 1)).foldl f a = f ((l.take j).foldl f a) (l.getD j 0) := by
  rw [List.take_add_one, List.getD_eq_getElem?_getD, List.getElem?_eq_getElem h]
  rw [List.foldl_append]
  rfl
theorem rem_1000 (i : Nat) : ∃ q : Int, 1 + (i : Int) % 1000 = q ∧ 1 ≤ q ∧ q ≤ 1000 := ⟨_, rfl, by omega, by omega⟩
theorem may_is {p v q : Int} {oa : Option Addr} {c : Nat} (hp : 0 ≤ p ∧ p < 4294967296) (hv : 0 ≤ v ∧ v < 4294967296) (hq : 1 ≤ q ∧ q ≤ 1000) : mayP ⟨p, v, [q, 1000000], oa, c⟩ true = true := by
  simp [mayP, isW, riseP]
  omega
theorem Took.same {L L' : List Sv} {s : Sv} {c : Int} (h : Took L L' s c) (hc : ¬ c = 0) : L' = L := by
  rcases h with ⟨_, h⟩ | ⟨h, _⟩
  · exact h
  · exact absurd h hc
theorem FS.range {W w : World} {p : Int} {b : Nat} {K : Nat → Nat} {oa lo : Option Addr} {cap lc : Nat} {L : List Sv} {l : List Int} (h : FS W p b K w oa cap L lo lc l) : ∀ v, v ∈ l → 0 ≤ v ∧ v ≤ 4294967295 := fun v hv => by
  rw [← h.vs] at hv
  obtain ⟨s, hs, rfl⟩ := List.mem_map.1 hv
  have := (h.pr.ok s hs).2.1
  unfold isW at this
  simpa using this
theorem FS.ends {l : List Int} (h : ∀ v, v ∈ l → 0 ≤ v ∧ v ≤ 4294967295) (h0 : ¬ l.length = 0) : minL l = l.foldl min 4294967296 ∧ maxL l = l.foldl max (-1) := by
  cases l with
  | nil => simp at h0
  | cons x r =>
    have := h x (List.mem_cons_self ..)
    exact ⟨min_is (by omega), max_is (by omega)⟩
theorem next_is {p p1 : Int} (h : 0 ≤ p ∧ p < 4294967296) (h1 : wrap64 (p + 1) = p1) : -9223372036854775808 ≤ p1 ∧ p1 ≤ 9223372036854775807 ∧ ¬ p = pickP p1 4294967296 := by
  have e : p1 = p + 1 := by rw [← h1]; unfold wrap64; omega
  subst e
  refine ⟨by omega, by omega, ?_⟩
  unfold pickP
  rw [if_neg (by omega)]
  omega
theorem FS.took {W w w' : World} {p : Int} {b : Nat} {K K' : Nat → Nat} {oa lo oa' : Option Addr} {cap lc cap' : Nat} {L L' : List Sv} {l : List Int} (h : FS W p b K w oa cap L lo lc l) (hP : PR K' w' 1 b oa' cap' L') (hM : Mv (fun x => x = 1) w w' K K') (hL : L' = L) : FS W p b K' w' oa' cap' L' lo lc l :=
  ⟨hP, h.row.mv hM (by omega), h.bs.mv hM (by omega), by rw [hL]; exact h.vs, by rw [hL]; exact h.all⟩
theorem FS.more {W w w' : World} {p v q : Int} {b : Nat} {K K' : Nat → Nat} {oa lo oa' oc : Option Addr} {cap lc cap' cc : Nat} {L L' : List Sv} {l : List Int} (h : FS W p b K w oa cap L lo lc l) (hP : PR K' w' 1 b oa' cap' L') (hM : Mv (fun x => x = 1) w w' K K') (hL : L' = L ++ [⟨p, v, [q, 1000000], oc, cc⟩]) (hq : 1 ≤ q ∧ q ≤ 1000) (hn : l.length < 16) {w2 : World} {N : Nat} (hN : w'.heap.size = N) (hw2 : w'.alloc (.cells #[.int .i64 v] 3) = w2) :
    ∃ lv' w3 K3, (∀ r, (Builtin.append_ #[32, 32] r #[.slice lo l.length lc, .slice (some ⟨N, 0, none⟩) 1 1]).run Try.prog w2 = .ok lv' w3) ∧ ∃ lo' lc', lv' = .slice lo' (l.length + 1) lc' ∧ FS W p b K3 w3 oa' cap' L' lo' lc' (l ++ [v]) := by
  obtain ⟨i, hi, hz, hs, hby⟩ := info3
  have b2 : Below w'.heap.size w' w2 := by rw [← hw2]; exact (Below.refl _ _).alloc (Nat.le_refl _) _
  have m2 := Mv.of_below b2 K' (fun _ => 5)
  have r2 := (h.row.mv hM (by omega)).mv m2 (fun h => h)
  obtain ⟨v', w3, K3, hr, hrow, hm⟩ := RW.app (ty := 32) (N := N) (x := v) (cs := #[.int .i64 v]) Try.underlying32 hi hz hs hby rfl (by omega) ivC_len (fun x u hu => by simp [ivC] at hu; subst hu; rfl) r2 (Nat.zero_le _) rfl (by rw [← hw2, ← hN]; exact (MapKept.heap_alloc w' _).1) (by omega) (by omega)
  obtain ⟨lo', lc', e1, e2, e3⟩ := hrow.form
  refine ⟨v', w3, K3, hr, lo', lc', by rw [e1, List.length_append]; rfl, ⟨(hP.mv m2 (fun h => h) (fun h => h)).mv hm (by omega) (by omega), by rw [← e1]; exact hrow, ((h.bs.mv hM (by omega)).mv m2 (fun h => h)).mv hm (by omega), by rw [hL, List.map_append, h.vs]; rfl, fun s hs => ?_⟩⟩
  rw [hL] at hs
  rcases List.mem_append.1 hs with hs | hs
  · exact h.all s hs
  · simp at hs
    subst hs
    exact ⟨rfl, q, hq.1, hq.2, rfl⟩
set_option maxRecDepth 8000 in
set_option maxHeartbeats 4000000 in
theorem finds_any (pg : Int) (hpg : I64 pg) (ov : Option Addr) (cv : Nat) (vs : List Int) (ot pc : Int) (hot : I64 ot) (W : World) (hgv : GsAt W W.heap.size ov vs) (h64 : ∀ i, i < vs.length → I64 (vs.getD i 0)) (hl : vs.length ≤ 100000000000000) :
    Calls Try.prog 4 #[.int .i64 pg, .slice ov vs.length cv, .int .i64 ot, .int .i64 pc] W fun e w' => e = .returned (.bool true) ∧ Below W.heap.size W w' := by
  have HGV := hid hgv
  have HV64 := hid h64
  obtain ⟨n, hn⟩ : ∃ n, vs.length = n := ⟨_, rfl⟩
  have HN := hid hn
  rw [hn] at hl ⊢
  have HLn := hid hl
  have HKN := hid (known_any W)
  have HPP := hid (fun w => pick_any pg 4294967296 w hpg.1 hpg.2 (by omega) (by omega))
  have HPO := hid (fun w => pick_any ot 4294967296 w hot.1 hot.2 (by omega) (by omega))
  have HPR := hid (pick_range pg 4294967296 (by omega))
  have HVO := hid (pick_range ot 4294967296 (by omega))
  obtain ⟨p, hp⟩ : ∃ p, pickP pg 4294967296 = p := ⟨_, rfl⟩
  obtain ⟨vo, hvo⟩ : ∃ vo, pickP ot 4294967296 = vo := ⟨_, rfl⟩
  rw [hp] at HPP HPR
  rw [hvo] at HPO HVO
  clear hgv h64 hn hl hp hvo hpg hot
  go_enter Try.func4, Try.ntmps4
  go_wp2_with fail
  refine HKN.out.mono ?_
  rintro _ w1 ⟨rfl, hb1⟩
  have HN1 := hid (new_any w1)
  obtain ⟨b, hb⟩ : ∃ b, w1.heap.size = b := ⟨_, rfl⟩
  obtain ⟨w2, hw2⟩ : ∃ w2, w1.alloc (.cells #[.slice none 0 0] 52) = w2 := ⟨_, rfl⟩
  have P2 := PR.new (fun _ => 0) w1 1
  have BS1 : BS W w1 (fun _ => 0) := ⟨hb1, fun _ _ => rfl⟩
  have BS2 := BS1.mv (Mv.alloc w1 (fun _ => 0) (fun _ => 1) (.cells #[.slice none 0 0] 52)) (fun h => h)
  rw [hw2] at BS2 P2 HN1
  rw [hb] at P2 HN1
  have HS2 : Hid (FS W p b (ext w1 (fun _ => 0) (fun _ => 1)) w2 none 0 [] none 0 []) := ⟨P2, RW.nil _ _ _ _ _ _ _, BS2, rfl, fun s hs => by simp at hs⟩
  clear hb1 P2 BS1 BS2 HKN
  go_wp2_with fail
  refine HN1.out.mono ?_
  rintro _ w3 ⟨rfl, hw3⟩
  subst hw3
  clear HN1
  go_wp2_with fail
  refine (HPP.out _).mono ?_
  rintro _ w4 ⟨rfl, hw4⟩
  subst hw4
  clear HPP
  go_wp2_with fail
  go_loopw [12, 13] (fun lv ix wr => ∃ (i : Nat) (K : Nat → Nat) (oa : Option Addr) (cap : Nat) (L : List Sv) (lo : Option Addr) (lc : Nat) (l : List Int) (m : Nat), lv = .slice lo m lc ∧ ix = .int .i64 i ∧ i ≤ n ∧ Hid (l.length = m) ∧ Hid (FS W p b K wr oa cap L lo lc l)) (fun _ ix _ => n - (intOf ix).toNat)
  case atStart => exact ⟨0, _, none, 0, [], none, 0, [], 0, rfl, rfl, by omega, rfl, HS2⟩
  case round =>
    obtain ⟨i, K, oa, cap, L, lo, lc, l, m, rfl, rfl, hi, HLM, HS⟩ := hrel
    by_cases hlt : i < n
    · obtain ⟨q0, off, ho, hq0, hc⟩ := HGV.out (by have := HN.out; omega)
      have d1 : wr.cell? ⟨q0, off + i, none⟩ = some (.int .i64 (vs.getD i 0)) := (cell_of_block (HS.out.bs.be.block q0 hq0)).trans (hc i (by have := HN.out; omega))
      subst ho
      obtain ⟨x, hx⟩ : ∃ x, vs.getD i 0 = x := ⟨_, rfl⟩
      have hx64 := HV64.out i (by have := HN.out; omega)
      rw [hx] at d1 hx64
      have i0 : (0 : Int) ≤ (i : Int) := by omega
      have i1 : (i : Int) < (n : Int) := by omega
      have hw := wrapJ hlt HLn.out
      have HPX := hid (fun w => pick_any x 4294967296 w hx64.1 hx64.2 (by omega) (by omega))
      have HVR := hid (pick_range x 4294967296 (by omega))
      obtain ⟨v, hv⟩ : ∃ v, pickP x 4294967296 = v := ⟨_, rfl⟩
      rw [hv] at HPX HVR
      clear hc hx hx64 hv
      go_wp2_with fail
      refine (HPX.out _).mono ?_
      rintro _ w5 ⟨rfl, hw5⟩
      subst hw5
      clear HPX d1
      go_wp2_with fail
      go_loopw [15, 16] (fun th jx wr2 => ∃ (j : Nat) (t : Bool), th = .bool t ∧ jx = .int .i64 j ∧ j ≤ m ∧ wr2 = w5 ∧ Hid (t = decide (v ∈ l.take j))) (fun _ jx _ => m - (intOf jx).toNat)
      case atStart => exact ⟨0, false, rfl, rfl, by omega, rfl, (by simp : false = decide (v ∈ l.take 0))⟩
      case round =>
        obtain ⟨j, t, rfl, rfl, hj, hwr2, HT⟩ := hrel
        subst hwr2
        by_cases hjm : j < m
        · obtain ⟨g, ho, hc⟩ := HS.out.cell (j := j) (by have := HLM.out; omega)
          have HTI := hid (take_in l v j (by have := HLM.out; omega))
          subst ho
          obtain ⟨y, hy⟩ : ∃ y, l.getD j 0 = y := ⟨_, rfl⟩
          rw [hy] at hc HTI
          have j0 : (0 : Int) ≤ (j : Int) := by omega
          have j1 : (j : Int) < (m : Int) := by omega
          have hwj := wrapJ hjm (show m ≤ 100000000000000 by have := HS.out.pr.most; have := HS.out.len; have := HLM.out; omega)
          clear hy
          cases t with
          | true =>
            go_wp2
            go_roundw
            case rel => exact ⟨j + 1, true, rfl, by go_num, hjm, by trivial, (by rw [HTI.out, ← HT.out]; rfl : true = decide (v ∈ l.take (j + 1)))⟩
            case measure => exact meas (by go_num) j1
          | false =>
            go_wp2
            go_roundw
            case rel => exact ⟨j + 1, (y == v), rfl, by go_num, hjm, by trivial, (by rw [HTI.out, ← HT.out]; simp : (y == v) = decide (v ∈ l.take (j + 1)))⟩
            case measure => exact meas (by go_num) j1
        · obtain rfl : j = m := by omega
          have htk : l.take j = l := List.take_of_length_le (by have := HLM.out; omega)
          rw [htk] at HT
          obtain ⟨q, hq, hq1, hq2⟩ := rem_1000 i
          have HQ := hid (And.intro hq1 hq2)
          obtain ⟨S2, hS2⟩ : ∃ S2, wr.heap.size = S2 := ⟨_, rfl⟩
          obtain ⟨w6, hw6⟩ : ∃ w6, wr.alloc (.cells #[.int .i64 q, .int .i64 1000000] 3) = w6 := ⟨_, rfl⟩
          have b6 : Below wr.heap.size wr w6 := by rw [← hw6]; exact (Below.refl _ _).alloc (Nat.le_refl _) _
          have HS6 := hid (HS.out.below b6)
          have hmay := may_is (oa := some ⟨S2, 0, none⟩) (c := 2) HPR.out HVR.out ⟨hq1, hq2⟩
          have HO := hid (offer_any HS6.out.pr (by omega) ⟨p, v, [q, 1000000], some ⟨S2, 0, none⟩, 2⟩ (gs2 hS2 hw6) (fun a h => by cases h; rfl) (by simp))
          have hE := offerE_is HS6.out hmay rfl
          simp only [] at hE
          rw [hE] at HO
          have hbl2 := bls2
          have hbl48 := bld48s
          clear b6 hmay hE hq1 hq2 htk HVR
          by_cases hin : v ∈ l
          · rw [if_pos hin] at HO
            have ht : t = true := by rw [HT.out]; exact decide_eq_true hin
            subst ht
            go_wp2_with fail
            refine HO.out.mono ?_
            rintro _ w7 ⟨K7, oa7, cap7, L7, rfl, hP7, hM7, hT7⟩
            have HS7 := hid (HS6.out.took hP7 hM7 (hT7.same (by omega)))
            clear hP7 hM7 hT7 HO
            go_wp2
            go_roundw
            case rel => exact ⟨i + 1, K7, oa7, cap7, L7, lo, lc, l, j, rfl, by go_num, hlt, HLM, HS7⟩
            case measure => exact meas (by go_num) i1
          · rw [if_neg hin] at HO
            have ht : t = false := by rw [HT.out]; exact decide_eq_false hin
            subst ht
            by_cases hfull : l.length = 16
            · rw [if_pos hfull] at HO
              have hj16 : ((j : Int) == 16) = true := by rw [← HLM.out, hfull]; rfl
              go_wp2_with fail
              refine HO.out.mono ?_
              rintro _ w7 ⟨K7, oa7, cap7, L7, rfl, hP7, hM7, hT7⟩
              have HS7 := hid (HS6.out.took hP7 hM7 (hT7.same (by omega)))
              clear hP7 hM7 hT7 HO
              go_wp2
              go_roundw
              case rel => exact ⟨i + 1, K7, oa7, cap7, L7, lo, lc, l, j, rfl, by go_num, hlt, HLM, HS7⟩
              case measure => exact meas (by go_num) i1
            · rw [if_neg hfull] at HO
              have hj16 : ¬ (j : Int) = 16 := by have := HLM.out; omega
              have HJ := hid (show l.length < 16 by have := HS.out.pr.most; have := HS.out.len; omega)
              go_wp2_with fail
              refine HO.out.mono ?_
              rintro _ w7 ⟨K7, oa7, cap7, L7, rfl, hP7, hM7, hT7⟩
              obtain ⟨oc, cc, hL7⟩ : ∃ oc cc, L7 = L ++ [⟨p, v, [q, 1000000], oc, cc⟩] := by
                rcases hT7 with ⟨h, _⟩ | ⟨_, oc, cc, h⟩
                · exact absurd rfl h
                · exact ⟨oc, cc, h⟩
              obtain ⟨S7, hS7⟩ : ∃ S7, w7.heap.size = S7 := ⟨_, rfl⟩
              obtain ⟨w8, hw8⟩ : ∃ w8, w7.alloc (.cells #[.int .i64 v] 3) = w8 := ⟨_, rfl⟩
              obtain ⟨lv', w9, K9, hr9, lo', lc', rfl, hS9⟩ := HS6.out.more hP7 hM7 hL7 HQ.out HJ.out hS7 hw8
              rw [HLM.out] at hr9
              have HR9 := hid hr9
              have HS9 := hid hS9
              have hbl1 := bls1
              clear hP7 hM7 hT7 HO hr9 hS9 hL7
              go_wp2_with (at_builtin; refine Hid.out ?_)
              refine (show Hid _ from ?_)
              refine wpList_app rfl _ _ 32 rfl (.slice lo j lc) (.slice (some ⟨S7, 0, none⟩) 1 1) _ w9 (by go_simp) (by go_simp) (HR9.out _) ?_
              go_wp2
              go_roundw
              case rel => exact ⟨i + 1, K9, oa7, cap7, L7, lo', lc', l ++ [v], j + 1, rfl, by go_num, hlt, hid (by rw [List.length_append, HLM.out]; rfl), HS9⟩
              case measure => exact meas (by go_num) i1
    · obtain rfl : i = n := by omega
      have HRG := hid HS.out.range
      go_wp2_with fail
      go_loopw [18, 19, 20] (fun lw hg ix wr3 => ∃ (k : Nat) (a c : Int) (K3 : Nat → Nat), lw = .int .i64 a ∧ hg = .int .i64 c ∧ ix = .int .i64 k ∧ k ≤ m ∧ Hid (a = (l.take k).foldl min 4294967296) ∧ Hid (c = (l.take k).foldl max (-1)) ∧ Hid (FS W p b K3 wr3 oa cap L lo lc l)) (fun _ _ ix _ => m - (intOf ix).toNat)
      case atStart => exact ⟨0, 4294967296, -1, K, rfl, rfl, rfl, by omega, (rfl : 4294967296 = (l.take 0).foldl min 4294967296), (rfl : -1 = (l.take 0).foldl max (-1)), HS⟩
      case round =>
        obtain ⟨k, a, c, K3, rfl, rfl, rfl, hk, HA, HC, HS3⟩ := hrel
        clear HS
        have HMB := hid (show m ≤ 16 by have := HS3.out.pr.most; have := HS3.out.len; have := HLM.out; omega)
        by_cases hkm : k < m
        · have hkl : k < l.length := by rw [HLM.out]; exact hkm
          have HKL := hid hkl
          have HA2 := hid (take_fold min l 4294967296 k hkl)
          have HC2 := hid (take_fold max l (-1) k hkl)
          obtain ⟨g, ho, hc⟩ := HS3.out.cell hkl
          subst ho
          obtain ⟨y, hy⟩ : ∃ y, l.getD k 0 = y := ⟨_, rfl⟩
          have hyl : y ∈ l := (mem_at l y).2 ⟨k, hkl, hy⟩
          rw [hy, ← HA.out] at HA2
          rw [hy, ← HC.out] at HC2
          rw [hy] at hc
          obtain ⟨q, hq1, hq2, hff⟩ := HS3.out.found hyl
          have f0 := hff 0
          have f1 := hff 1000000
          have f2 := hff 1000001
          rw [has_0, if_pos rfl] at f0
          rw [has_1, if_pos rfl] at f1
          rw [has_2 hq2, if_neg (by simp)] at f2
          have j0 : (0 : Int) ≤ (k : Int) := by omega
          have j1 : (k : Int) < (m : Int) := by omega
          have hwj := wrapJ hkm (Nat.le_trans HMB.out (by omega))
          have HF0 := hid (find_any HS3.out.pr p y 0)
          rw [f0] at HF0
          have HY := hid hy
          have HFF := hid (And.intro f1 f2)
          clear hkl hy hyl hq1 hq2 hff f0 f1 f2
          go_wp2_with fail
          refine HF0.out.mono ?_
          rintro _ x1 ⟨rfl, hb1⟩
          have HX1 := hid (HS3.out.below hb1)
          obtain ⟨g', ho, hc1⟩ := HX1.out.cell HKL.out
          cases ho
          rw [HY.out] at hc1
          have HF1 := hid (find_any HX1.out.pr p y 1000000)
          rw [HFF.out.1] at HF1
          clear hb1 HF0 hc HS3
          go_wp2_with fail
          refine HF1.out.mono ?_
          rintro _ x2 ⟨rfl, hb2⟩
          have HX2 := hid (HX1.out.below hb2)
          obtain ⟨g', ho, hc2⟩ := HX2.out.cell HKL.out
          cases ho
          rw [HY.out] at hc2
          have HF2 := hid (find_any HX2.out.pr p y 1000001)
          rw [HFF.out.2] at HF2
          clear hb2 HF1 hc1 HX1
          go_wp2_with fail
          refine HF2.out.mono ?_
          rintro _ x3 ⟨rfl, hb3⟩
          have HX3 := hid (HX2.out.below hb3)
          clear hb3 HF2 hc2 HX2
          go_wp2
          go_roundw
          case rel => exact ⟨k + 1, min a y, max c y, _, by go_num, by go_num, by go_num, hkm, HA2.out.symm, HC2.out.symm, HX3⟩
          case measure => exact meas (by go_num) j1
        · obtain rfl : k = m := by omega
          have htk : l.take k = l := List.take_of_length_le (by have := HLM.out; omega)
          rw [htk] at HA HC
          go_wp2_with fail
          refine (HPO.out _).mono ?_
          rintro _ x1 ⟨rfl, hx1⟩
          subst hx1
          clear HPO
          go_wp2_with fail
          go_loopw [31, 32] (fun th jx wr4 => ∃ (j : Nat) (t : Bool), th = .bool t ∧ jx = .int .i64 j ∧ j ≤ k ∧ wr4 = x1 ∧ Hid (t = decide (vo ∈ l.take j))) (fun _ jx _ => k - (intOf jx).toNat)
          case atStart => exact ⟨0, false, rfl, rfl, by omega, rfl, (by simp : false = decide (vo ∈ l.take 0))⟩
          case round =>
            obtain ⟨j, t, rfl, rfl, hj, hwr4, HT⟩ := hrel
            subst hwr4
            by_cases hjm : j < k
            · obtain ⟨g, ho, hc⟩ := HS3.out.cell (j := j) (by have := HLM.out; omega)
              have HTI := hid (take_in l vo j (by have := HLM.out; omega))
              subst ho
              obtain ⟨y, hy⟩ : ∃ y, l.getD j 0 = y := ⟨_, rfl⟩
              rw [hy] at hc HTI
              have j0 : (0 : Int) ≤ (j : Int) := by omega
              have j1 : (j : Int) < (k : Int) := by omega
              have hwj := wrapJ hjm (Nat.le_trans HMB.out (by omega))
              clear hy
              cases t with
              | true =>
                go_wp2
                go_roundw
                case rel => exact ⟨j + 1, true, rfl, by go_num, hjm, by trivial, (by rw [HTI.out, ← HT.out]; rfl : true = decide (vo ∈ l.take (j + 1)))⟩
                case measure => exact meas (by go_num) j1
              | false =>
                go_wp2
                go_roundw
                case rel => exact ⟨j + 1, (y == vo), rfl, by go_num, hjm, by trivial, (by rw [HTI.out, ← HT.out]; simp : (y == vo) = decide (vo ∈ l.take (j + 1)))⟩
                case measure => exact meas (by go_num) j1
            · obtain rfl : j = k := by omega
              have htk : l.take j = l := List.take_of_length_le (by have := HLM.out; omega)
              rw [htk] at HT
              have HF0 := hid (find_any HS3.out.pr p vo pc)
              obtain ⟨R, hR⟩ : ∃ R, findP L p vo pc = R := ⟨_, rfl⟩
              rw [hR] at HF0
              obtain ⟨Q, hQ⟩ : ∃ Q, ranP R.1 pc [] = Q := ⟨_, rfl⟩
              have HRQ := hid (And.intro hR hQ)
              obtain ⟨p1, hp1⟩ : ∃ p1, wrap64 (p + 1) = p1 := ⟨_, rfl⟩
              have hpp := next_is HPR.out hp1
              have HP1 := hid (fun w => pick_any p1 4294967296 w hpp.1 hpp.2.1 (by omega) (by omega))
              obtain ⟨p2, hp2⟩ : ∃ p2, pickP p1 4294967296 = p2 := ⟨_, rfl⟩
              have HNE := hid hpp.2.2
              rw [hp2] at HP1 HNE
              clear hR hQ hpp hp2 htk
              go_wp2_with fail
              refine HF0.out.mono ?_
              rintro _ x2 ⟨rfl, hb2⟩
              have HX2 := hid (HS3.out.below hb2)
              have HF1 := hid (run_any HX2.out.pr p vo pc [] (by simp))
              rw [HRQ.out.1, HRQ.out.2] at HF1
              clear hb2 HF0 HS3
              go_wp2_with fail
              refine HF1.out.mono ?_
              rintro _ x3 ⟨rfl, hb3⟩
              have HX3 := hid (HX2.out.below hb3)
              have HF2 := hid (find_any HX3.out.pr p2 vo pc)
              rw [HX3.out.other HNE.out] at HF2
              clear hb3 HF1 HX2
              go_wp2_with fail
              refine (HP1.out _).mono ?_
              rintro _ x4 ⟨rfl, hx4⟩
              subst hx4
              clear HP1
              go_wp2_with fail
              refine HF2.out.mono ?_
              rintro _ x5 ⟨rfl, hb5⟩
              have HX5 := hid (HX3.out.below hb5)
              clear hb5 HF2
              by_cases hin : vo ∈ l
              · have ht : t = true := by rw [HT.out]; exact decide_eq_true hin
                subst ht
                go_wp2
                go_ret
                exact ⟨rfl, HX5.out.bs.be⟩
              · have ht : t = false := by rw [HT.out]; exact decide_eq_false hin
                subst ht
                have hnw := HX3.out.nowhere hin pc
                rw [HRQ.out.1, HLM.out] at hnw
                by_cases hj0 : j = 0
                · rw [if_pos hj0] at hnw
                  have hQ : Q = (1, noB) := by rw [← HRQ.out.2, hnw]; rfl
                  have hji : ((j : Int) == 0) = true := by rw [hj0]; rfl
                  rw [hnw, hQ]
                  clear HRQ hnw hQ
                  go_wp2
                  go_ret
                  exact ⟨rfl, HX5.out.bs.be⟩
                · rw [if_neg hj0] at hnw
                  have hmm := FS.ends HRG.out (by rw [HLM.out]; exact hj0)
                  rw [hmm.1, hmm.2, ← HA.out, ← HC.out] at hnw
                  have hQ : Q = (2, noB) := by rw [← HRQ.out.2, hnw]; rfl
                  have hji : ((j : Int) == 0) = false := by simp; omega
                  rw [hnw, hQ]
                  clear HRQ hnw hQ hmm
                  go_wp2
                  go_ret
                  exact ⟨by simp, HX5.out.bs.be⟩
end Go.Proofs.Ytcpjihaicmlmjaa
