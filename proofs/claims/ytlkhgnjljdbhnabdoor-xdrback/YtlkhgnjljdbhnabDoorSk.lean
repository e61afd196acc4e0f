/- XdrBack: what was laid down is read as it was; a unit shorter, and longer: the walk. -/
import Derived.Test.YtlkhgnjljdbhnabDoorSq2
import Derived.Deep.RegionHeld
namespace Go.Proofs.YtlkhgnjljdbhnabDoor
open Go.RowKit

set_option maxRecDepth 4000 in
set_option maxHeartbeats 8000000 in
theorem xdrBack_any (oa : Option Addr) (b off len cap : Nat) (K N MM : Nat → Int) (O : Nat → Bool) (T : Nat → ByteArray) (A B : Nat → Nat) (more : List UInt8) (w : World) (hoa : 0 < len → oa = some ⟨b, off, none⟩) (hops : Ops w b off len K N MM O T A B)
    (hlen : (len : Int) ≤ 9223372036854775807) (hE : ErrT w) (hawake : Calls Tryd.prog 7 #[] w fun e w' => e = .returned (.bool true) ∧ Below w.heap.size w w') :
    Calls Tryd.prog 3 #[.slice oa len cap, .string ⟨more.toArray⟩] w fun e w' => e = .returned (.bool true) ∧ Below w.heap.size w w' := by
  have HWE : Hid (Calls Tryd.prog 6 #[.slice oa len cap] w fun e w' => ∃ n : Int, e = .returned (.int .i64 n) ∧ w' = w ∧ (n ≤ 2147483647 → n = (len : Int) + (wsum T len : Int))) := weighs_any oa b off len cap T w hoa hops.c4 hlen
  have HAW : Hid (Calls Tryd.prog 7 #[] w fun e w' => e = .returned (.bool true) ∧ Below w.heap.size w w') := hawake
  have HADD : Hid (∀ (a b : Int) (w : World), 0 ≤ a → 0 ≤ b → Calls Tryd.prog 5 #[.int .i64 a, .int .i64 b] w fun e w' => e = .returned (.int .i64 (addF a b)) ∧ w' = w) := addsUp_any
  have HP1 : Hid (∀ w, Calls Tryd.prog 8 #[.int .i64 2147483648] w fun e w' => e = .returned (.pointer (some ⟨w.heap.size, 0, none⟩)) ∧ w' = w.alloc (.cells #[.int .i64 2147483648, .slice none 0 0, .nilIface] 58)) := fun w => pnew 2147483648 w
  have HO : Hid (0 < len → oa = some ⟨b, off, none⟩) := hoa
  have HOP : Hid (Ops w b off len K N MM O T A B) := hops
  have HER : Hid (ErrT w) := hE
  clear hawake hoa hops hE
  go_enter Tryd.func3, Tryd.ntmps3
  go_wp2_with fail
  refine HWE.out.mono ?_
  rintro e w0 ⟨n, rfl, hw0, hn⟩
  have hw1 := hw0.symm
  clear hw0
  subst hw1
  have hn0 : 0 ≤ n := by
    by_cases h : n ≤ 2147483647
    · have := hn h; omega
    · omega
  have HN : Hid (n ≤ 2147483647 → n = (len : Int) + (wsum T len : Int)) := hn
  clear hn
  obtain ⟨m, hm⟩ : ∃ m, addF n (more.length : Int) = m := ⟨_, rfl⟩
  have HM : Hid (m ≤ 2147483647 → n ≤ 2147483647 ∧ n + (more.length : Int) ≤ 2147483647) := by
    show m ≤ 2147483647 → n ≤ 2147483647 ∧ n + (more.length : Int) ≤ 2147483647
    intro h
    subst hm
    unfold addF at h
    split at h
    · omega
    · omega
  have H5 : Hid (Calls Tryd.prog 5 #[.int .i64 n, .int .i64 (more.length : Int)] w fun e w' => e = .returned (.int .i64 m) ∧ w' = w) := by
    have := HADD.out n (more.length : Int) w hn0 (by omega)
    rw [hm] at this
    exact this
  clear hm hn0
  go_wp2_with fail
  refine H5.out.mono ?_
  rintro e w0 ⟨rfl, hw0⟩
  have hw1 := hw0.symm
  clear hw0
  subst hw1
  by_cases hb : 2147483647 < m
  · go_wp2
    go_ret
    exact ⟨rfl, Below.refl _ _⟩
  have HS : Hid (wsum T len + len + more.length ≤ 2147483647) := by
    show wsum T len + len + more.length ≤ 2147483647
    have h1 := HM.out (by omega)
    have h2 := HN.out h1.1
    omega
  clear HN HM
  have HOPS : Hid (∃ cs : Nat → Call, ∀ i, i < len → (cs i).b.length ≤ 16 + (T i).size ∧ PutsAs (K i) (N i) (MM i) (O i) (T i) (A i) (B i) (cs i).b ∧ GetsAs (K i) (N i) (MM i) (O i) (T i) (A i) (B i) (cs i)) := by
    have hx : ∀ i, ∃ c : Call, i < len → c.b.length ≤ 16 + (T i).size ∧ PutsAs (K i) (N i) (MM i) (O i) (T i) (A i) (B i) c.b ∧ GetsAs (K i) (N i) (MM i) (O i) (T i) (A i) (B i) c := by
      intro i
      by_cases hi : i < len
      · have h1 := wsum_mono T (i + 1) len hi
        have h3 : wsum T (i + 1) = wsum T i + (16 + (T i).size) := rfl
        have h2 := HS.out
        obtain ⟨c, hc⟩ := op_any (K i) (N i) (MM i) (O i) (T i) (A i) (B i) (by omega) (HOP.out.n i hi).1 (HOP.out.n i hi).2 (HOP.out.m i hi).1 (HOP.out.m i hi).2 (HOP.out.a i hi) (HOP.out.b i hi)
        exact ⟨c, fun _ => hc⟩
      · exact ⟨⟨Unit, (), rdNone, [], (), ⟨fun r => rfl, rfl, fun h => absurd rfl h⟩⟩, fun h => absurd h hi⟩
    exact ⟨fun i => (hx i).choose, fun i hi => (hx i).choose_spec hi⟩
  obtain ⟨cs, hcs⟩ := HOPS.out
  have HCS : Hid (∀ i, i < len → (cs i).b.length ≤ 16 + (T i).size ∧ PutsAs (K i) (N i) (MM i) (O i) (T i) (A i) (B i) (cs i).b ∧ GetsAs (K i) (N i) (MM i) (O i) (T i) (A i) (B i) (cs i)) := hcs
  clear hcs HOPS
  go_wp2_with fail
  refine HAW.out.mono ?_
  rintro e w1 ⟨rfl, hB1⟩
  have HB1 : Hid (Below w.heap.size w w1) := hB1
  clear hB1
  go_wp2_with fail
  refine (HP1.out _).mono ?_
  rintro e w2 ⟨rfl, rfl⟩
  go_wp2_with fail
  go_loopw [7] (fun i wr => ∃ k : Nat, i = .int .i64 k ∧ k ≤ len ∧ Hid (PutN w.heap.size w cs w1.heap.size k wr)) (fun i _ => len - (intOf i).toNat)
  case atStart => exact ⟨0, rfl, by omega, PutN.start _ _ _ _ HB1.out HB1.out.size⟩
  case round =>
    obtain ⟨k, rfl, hk, HI⟩ := hrel
    by_cases hlt : k < len
    · obtain rfl := HO.out (by omega)
      have hwr : Ops wr b off len K N MM O T A B := HOP.out.below (HI.out.1.block b (HOP.out.lt (by omega)))
      have d0 := hwr.c0 k hlt
      have d1 := hwr.c1 k hlt
      have d2 := hwr.c2 k hlt
      have d3 := hwr.c3 k hlt
      have d4 := hwr.c4 k hlt
      have d5 := hwr.c5 k hlt
      have d6 := hwr.c6 k hlt
      have H9 : Hid (Calls Tryd.prog 9 #[.pointer (some ⟨w1.heap.size, 0, none⟩), opcV (K k) (N k) (MM k) (O k) (T k) (A k) (B k)] wr fun e w' => e = .returned (.tuple #[]) ∧ PutN w.heap.size w cs w1.heap.size (k + 1) w') :=
        HI.out.step HB1.out.size (HCS.out k hlt).2.1 T (by
          have h1 := wsum_mono T (k + 1) len hlt
          have h2 := HS.out
          have h3 : wsum T (k + 1) = wsum T k + (16 + (T k).size) := rfl
          omega) (laidN_le cs T len (fun i hi => (HCS.out i hi).1) k (by omega)) (HCS.out k hlt).1
      unfold opcV at H9
      clear hwr
      go_wp2_with fail
      refine H9.out.mono ?_
      rintro e w2 ⟨rfl, hi⟩
      have HI2 : Hid (PutN w.heap.size w cs w1.heap.size (k + 1) w2) := hi
      clear hi H9 HI
      go_wp2
      go_roundw
      case rel => exact ⟨k + 1, by go_num, by omega, HI2⟩
      case measure => simp [intOf]; omega
    · obtain rfl : k = len := by omega
      obtain ⟨L, hL⟩ : ∃ L, laidN cs k = L := ⟨_, rfl⟩
      have HL : Hid (L.length ≤ wsum T k ∧ L.length % 4 = 0 ∧ laidN cs k = L) := ⟨hL ▸ laidN_le cs T k (fun i hi => (HCS.out i hi).1) k (Nat.le_refl _), hL ▸ laidN_fours cs k, hL⟩
      have hL1 : (L.length : Int) ≤ 2147483647 := by
        have h1 := HL.out.1
        have h2 := HS.out
        omega
      have hL4 : (L.length : Int) % 4 = 0 := by
        have h1 := HL.out.2.1
        omega
      have HD : Hid (Calls Tryd.prog 10 #[.pointer (some ⟨w1.heap.size, 0, none⟩)] wr fun e w' => e = .returned (.tuple #[.string ⟨L.toArray⟩, .int .i64 0]) ∧ PutN w.heap.size w cs w1.heap.size k w') := hL ▸ HI.out.done HER.out
      have HLN : Hid (∀ w', PutN w.heap.size w cs w1.heap.size k w' → Calls Tryd.prog 11 #[.pointer (some ⟨w1.heap.size, 0, none⟩)] w' fun e w2 => e = .returned (.int .i64 (L.length : Int)) ∧ w2 = w') := fun w' h => hL ▸ h.len
      clear hL
      go_wp2_with fail
      refine HD.out.mono ?_
      rintro e w2 ⟨rfl, hi⟩
      have HI2 : Hid (PutN w.heap.size w cs w1.heap.size k w2) := hi
      clear hi HD HI
      go_wp2_with fail
      refine (HLN.out _ HI2.out).mono ?_
      rintro e w0 ⟨rfl, hw0⟩
      have hw1 := hw0.symm
      clear hw0
      subst hw1
      have hLm : ¬ 9223372036854775807 < L.length + 1 + more.length := by
        have h2 := HS.out
        omega
      have hLn : ¬ 9223372036854775807 < L.length + 1 := by omega
      by_cases h4 : (4 : Int) ≤ (L.length : Int)
      · go_wp2_with fail
        go_loopw [12] (fun i wr => ∃ j : Nat, i = .int .i64 j ∧ j ≤ 3 ∧ Hid (Txt w.heap.size w (texts L more) (w2.heap.size + 1 + 1) (w2.heap.size + 1 + 1 + 1) 3 wr)) (fun i _ => 3 - (intOf i).toNat)
        case atStart => exact ⟨0, rfl, by omega, Txt.start3 HI2.out _ _ _ _⟩
        case round =>
          obtain ⟨j, rfl, hj, HT⟩ := hrel
          obtain ⟨wo, rfl⟩ : ∃ wo, wo = wr := ⟨_, rfl⟩
          by_cases hjl : j < 3
          · have t0 := HT.out.t j hjl
            obtain ⟨X, hX⟩ : ∃ X, texts L more j = X := ⟨_, rfl⟩
            rw [hX] at t0
            have HX : Hid (texts L more j = X) := hX
            have HXL : Hid (X.length ≤ 281474976710656) := by
              show X.length ≤ 281474976710656
              rw [← hX]
              have h1 := texts_len L more j
              have h2 := HS.out
              omega
            have HNW : Hid (∀ w, Calls Tryd.prog 12 #[.string ⟨X.toArray⟩] w fun e w' => e = .returned (.pointer (some ⟨w.heap.size, 0, none⟩)) ∧ w' = w.alloc (.cells #[.string ⟨X.toArray⟩, .nilIface] 67)) := rnew_rd X
            have HST : Hid (GetN w.heap.size w (texts L more) (w2.heap.size + 1 + 1) (w2.heap.size + 1 + 1 + 1) 3 cs ⟨X, 0⟩ wo.heap.size 0 (wo.alloc (.cells #[.string ⟨X.toArray⟩, .nilIface] 67))) := HT.out.news X
            clear hX
            unfold Bs at t0
            go_wp2_with fail
            refine (HNW.out _).mono ?_
            rintro e w3 ⟨rfl, rfl⟩
            go_wp2_with fail
            go_loopw [14] (fun i wq => ∃ q : Nat, i = .int .i64 q ∧ q ≤ k ∧ Hid (GetN w.heap.size w (texts L more) (w2.heap.size + 1 + 1) (w2.heap.size + 1 + 1 + 1) 3 cs ⟨X, 0⟩ wo.heap.size q wq)) (fun i _ => k - (intOf i).toNat)
            case atStart => exact ⟨0, rfl, by omega, HST⟩
            case round =>
              obtain ⟨q, rfl, hq, HG⟩ := hrel
              by_cases hql : q < k
              · obtain rfl := HO.out (by omega)
                have hwr2 : Ops wr b off k K N MM O T A B := HOP.out.below (HG.out.1.low.block b (HOP.out.lt (by omega)))
                have d0 := hwr2.c0 q hql
                have d1 := hwr2.c1 q hql
                have d2 := hwr2.c2 q hql
                have d3 := hwr2.c3 q hql
                have d4 := hwr2.c4 q hql
                have d5 := hwr2.c5 q hql
                have d6 := hwr2.c6 q hql
                have H13 : Hid (Calls Tryd.prog 13 #[.pointer (some ⟨wo.heap.size, 0, none⟩), opcV (K q) (N q) (MM q) (O q) (T q) (A q) (B q)] wr fun e w' => ∃ x : Bool, e = .returned (.bool x) ∧ GetN w.heap.size w (texts L more) (w2.heap.size + 1 + 1) (w2.heap.size + 1 + 1 + 1) 3 cs ⟨X, 0⟩ wo.heap.size (q + 1) w' ∧ (x = false → ¬ (j : Int) < 2)) :=
                  HG.out.step HT.out (HCS.out q hql).2.2 (Nat.le_trans (stN_len cs ⟨X, 0⟩ q) HXL.out) fun hj2 => texts_tells cs k q j hql L more X HL.out.2.2 HX.out (by omega)
                unfold opcV at H13
                clear hwr2
                go_wp2_with fail
                refine H13.out.mono ?_
                rintro e w4 ⟨x, rfl, hG4, hx⟩
                have HG4 : Hid (GetN w.heap.size w (texts L more) (w2.heap.size + 1 + 1) (w2.heap.size + 1 + 1 + 1) 3 cs ⟨X, 0⟩ wo.heap.size (q + 1) w4) := hG4
                clear hG4 H13 HG
                cases x
                · have hx2 := hx rfl
                  clear hx
                  go_wp2
                  go_roundw
                  case rel => exact ⟨q + 1, by go_num, by omega, HG4⟩
                  case measure => simp [intOf]; omega
                · clear hx
                  go_wp2
                  go_roundw
                  case rel => exact ⟨q + 1, by go_num, by omega, HG4⟩
                  case measure => simp [intOf]; omega
              · obtain rfl : q = k := by omega
                obtain ⟨z, hz⟩ : ∃ z, wantV j = z := ⟨_, rfl⟩
                have hj0 : (0 : Int) ≤ (j : Int) := by omega
                have hj3 : (j : Int) < 3 := by omega
                have d0 := HG.out.1.n j (by omega)
                rw [hz] at d0
                have H14 : Hid (∀ w', Below wr.heap.size wr w' → Calls Tryd.prog 14 #[.pointer (some ⟨wo.heap.size, 0, none⟩)] w' fun e w'' => e = .returned (.int .i64 z) ∧ (Txt w.heap.size w (texts L more) (w2.heap.size + 1 + 1) (w2.heap.size + 1 + 1 + 1) 3 w'' ∧ w''.cell? ⟨w2.heap.size + 1 + 1 + 1, j, none⟩ = some (.int .i64 z))) := fun w' hB => by
                  rw [← hz]
                  exact HG.out.done hB HER.out (by omega) (texts_done cs q j L more X HL.out.2.2 HX.out (by first | omega | exact h4))
                clear hz
                go_wp2_with fail
                go_region_with (go_at_call 14; refine (H14.out _ (below_dr (Below.refl _ _))).mono ?_; rintro e w5 ⟨rfl, hT5, hc5⟩; have HT5 : Hid (Txt w.heap.size w (texts L more) (w2.heap.size + 1 + 1) (w2.heap.size + 1 + 1 + 1) 3 w5) := hT5; clear hT5)
                all_goals (
                  go_wp2
                  go_roundw
                  case rel => exact ⟨j + 1, by go_num, by omega, HT5⟩
                  case measure => simp [intOf]; omega)
          · obtain rfl : j = 3 := by omega
            go_wp2
            go_ret
            exact ⟨rfl, HT.out.low⟩
      · go_wp2_with fail
        clear hL4
        go_loopw [12] (fun i wr => ∃ j : Nat, i = .int .i64 j ∧ j ≤ 2 ∧ Hid (Txt w.heap.size w (texts L more) (w2.heap.size) (w2.heap.size + 1) 2 wr)) (fun i _ => 2 - (intOf i).toNat)
        case atStart => exact ⟨0, rfl, by omega, Txt.start2 HI2.out L more⟩
        case round =>
          obtain ⟨j, rfl, hj, HT⟩ := hrel
          obtain ⟨wo, rfl⟩ : ∃ wo, wo = wr := ⟨_, rfl⟩
          by_cases hjl : j < 2
          · have t0 := HT.out.t j hjl
            obtain ⟨X, hX⟩ : ∃ X, texts L more j = X := ⟨_, rfl⟩
            rw [hX] at t0
            have HX : Hid (texts L more j = X) := hX
            have HXL : Hid (X.length ≤ 281474976710656) := by
              show X.length ≤ 281474976710656
              rw [← hX]
              have h1 := texts_len L more j
              have h2 := HS.out
              omega
            have HNW : Hid (∀ w, Calls Tryd.prog 12 #[.string ⟨X.toArray⟩] w fun e w' => e = .returned (.pointer (some ⟨w.heap.size, 0, none⟩)) ∧ w' = w.alloc (.cells #[.string ⟨X.toArray⟩, .nilIface] 67)) := rnew_rd X
            have HST : Hid (GetN w.heap.size w (texts L more) (w2.heap.size) (w2.heap.size + 1) 2 cs ⟨X, 0⟩ wo.heap.size 0 (wo.alloc (.cells #[.string ⟨X.toArray⟩, .nilIface] 67))) := HT.out.news X
            clear hX
            unfold Bs at t0
            go_wp2_with fail
            refine (HNW.out _).mono ?_
            rintro e w3 ⟨rfl, rfl⟩
            go_wp2_with fail
            go_loopw [14] (fun i wq => ∃ q : Nat, i = .int .i64 q ∧ q ≤ k ∧ Hid (GetN w.heap.size w (texts L more) (w2.heap.size) (w2.heap.size + 1) 2 cs ⟨X, 0⟩ wo.heap.size q wq)) (fun i _ => k - (intOf i).toNat)
            case atStart => exact ⟨0, rfl, by omega, HST⟩
            case round =>
              obtain ⟨q, rfl, hq, HG⟩ := hrel
              by_cases hql : q < k
              · obtain rfl := HO.out (by omega)
                have hwr2 : Ops wr b off k K N MM O T A B := HOP.out.below (HG.out.1.low.block b (HOP.out.lt (by omega)))
                have d0 := hwr2.c0 q hql
                have d1 := hwr2.c1 q hql
                have d2 := hwr2.c2 q hql
                have d3 := hwr2.c3 q hql
                have d4 := hwr2.c4 q hql
                have d5 := hwr2.c5 q hql
                have d6 := hwr2.c6 q hql
                have H13 : Hid (Calls Tryd.prog 13 #[.pointer (some ⟨wo.heap.size, 0, none⟩), opcV (K q) (N q) (MM q) (O q) (T q) (A q) (B q)] wr fun e w' => ∃ x : Bool, e = .returned (.bool x) ∧ GetN w.heap.size w (texts L more) (w2.heap.size) (w2.heap.size + 1) 2 cs ⟨X, 0⟩ wo.heap.size (q + 1) w' ∧ (x = false → ¬ (j : Int) < 2)) :=
                  HG.out.step HT.out (HCS.out q hql).2.2 (Nat.le_trans (stN_len cs ⟨X, 0⟩ q) HXL.out) fun hj2 => texts_tells cs k q j hql L more X HL.out.2.2 HX.out (by omega)
                unfold opcV at H13
                clear hwr2
                go_wp2_with fail
                refine H13.out.mono ?_
                rintro e w4 ⟨x, rfl, hG4, hx⟩
                have HG4 : Hid (GetN w.heap.size w (texts L more) (w2.heap.size) (w2.heap.size + 1) 2 cs ⟨X, 0⟩ wo.heap.size (q + 1) w4) := hG4
                clear hG4 H13 HG
                cases x
                · exfalso; have h9 := hx rfl; omega
                · clear hx
                  go_wp2
                  go_roundw
                  case rel => exact ⟨q + 1, by go_num, by omega, HG4⟩
                  case measure => simp [intOf]; omega
              · obtain rfl : q = k := by omega
                obtain ⟨z, hz⟩ : ∃ z, wantV j = z := ⟨_, rfl⟩
                have hj0 : (0 : Int) ≤ (j : Int) := by omega
                have hj3 : (j : Int) < 3 := by omega
                have d0 := HG.out.1.n j (by omega)
                rw [hz] at d0
                have H14 : Hid (∀ w', Below wr.heap.size wr w' → Calls Tryd.prog 14 #[.pointer (some ⟨wo.heap.size, 0, none⟩)] w' fun e w'' => e = .returned (.int .i64 z) ∧ (Txt w.heap.size w (texts L more) (w2.heap.size) (w2.heap.size + 1) 2 w'' ∧ w''.cell? ⟨w2.heap.size + 1, j, none⟩ = some (.int .i64 z))) := fun w' hB => by
                  rw [← hz]
                  exact HG.out.done hB HER.out (by omega) (texts_done cs q j L more X HL.out.2.2 HX.out (by first | omega | exact h4))
                clear hz
                go_wp2_with fail
                go_region_with (go_at_call 14; refine (H14.out _ (below_dr (Below.refl _ _))).mono ?_; rintro e w5 ⟨rfl, hT5, hc5⟩; have HT5 : Hid (Txt w.heap.size w (texts L more) (w2.heap.size) (w2.heap.size + 1) 2 w5) := hT5; clear hT5)
                all_goals (
                  go_wp2
                  go_roundw
                  case rel => exact ⟨j + 1, by go_num, by omega, HT5⟩
                  case measure => simp [intOf]; omega)
          · obtain rfl : j = 2 := by omega
            go_wp2
            go_ret
            exact ⟨rfl, HT.out.low⟩
end Go.Proofs.YtlkhgnjljdbhnabDoor
