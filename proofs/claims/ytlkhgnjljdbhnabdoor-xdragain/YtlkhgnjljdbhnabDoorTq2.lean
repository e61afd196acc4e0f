/- XdrAgain: what is read of any text is laid down as just the bytes that were taken: the walk. -/
import Derived.Test.YtlkhgnjljdbhnabDoorTq1
import Derived.Deep.RegionHeld
namespace Go.Proofs.YtlkhgnjljdbhnabDoor
open Go.RowKit

set_option maxRecDepth 4000 in
set_option maxHeartbeats 8000000 in
theorem xdrAgain_any (s : List UInt8) (oa : Option Addr) (b off len cap : Nat) (K N MM : Nat → Int) (O : Nat → Bool) (T : Nat → ByteArray) (A B : Nat → Nat) (w : World) (hoa : 0 < len → oa = some ⟨b, off, none⟩) (hops : Ops w b off len K N MM O T A B)
    (hlen : (len : Int) ≤ 9223372036854775807) (hE : ErrT w) (hawake : Calls Tryd.prog 7 #[] w fun e w' => e = .returned (.bool true) ∧ Below w.heap.size w w') :
    Calls Tryd.prog 4 #[.string ⟨s.toArray⟩, .slice oa len cap] w fun e w' => e = .returned (.bool true) ∧ Below w.heap.size w w' := by
  have HWE : Hid (Calls Tryd.prog 6 #[.slice oa len cap] w fun e w' => ∃ n : Int, e = .returned (.int .i64 n) ∧ w' = w ∧ (n ≤ 2147483647 → n = (len : Int) + (wsum T len : Int))) := weighs_any oa b off len cap T w hoa hops.c4 hlen
  have HAW : Hid (Calls Tryd.prog 7 #[] w fun e w' => e = .returned (.bool true) ∧ Below w.heap.size w w') := hawake
  have HADD : Hid (∀ (a b : Int) (w : World), 0 ≤ a → 0 ≤ b → Calls Tryd.prog 5 #[.int .i64 a, .int .i64 b] w fun e w' => e = .returned (.int .i64 (addF a b)) ∧ w' = w) := addsUp_any
  have HNR : Hid (∀ w, Calls Tryd.prog 12 #[.string ⟨s.toArray⟩] w fun e w' => e = .returned (.pointer (some ⟨w.heap.size, 0, none⟩)) ∧ w' = w.alloc (.cells #[.string ⟨s.toArray⟩, .nilIface] 67)) := rnew_rd s
  have HNW : Hid (∀ w, Calls Tryd.prog 8 #[.int .i64 (s.length : Int)] w fun e w' => e = .returned (.pointer (some ⟨w.heap.size, 0, none⟩)) ∧ w' = w.alloc (.cells #[.int .i64 (s.length : Int), .slice none 0 0, .nilIface] 58)) := fun w => by
    have := pnew (s.length : Int) w
    rwa [Int.max_eq_left (by omega)] at this
  have HO : Hid (0 < len → oa = some ⟨b, off, none⟩) := hoa
  have HOP : Hid (Ops w b off len K N MM O T A B) := hops
  have HER : Hid (ErrT w) := hE
  clear hawake hoa hops hE
  go_enter Tryd.func4, Tryd.ntmps4
  go_wp2_with fail
  refine HWE.out.mono ?_
  rintro e w0 ⟨n, rfl, hw0, hn⟩
  have hw1 := hw0.symm
  clear hw0
  subst hw1
  have hn0 : 0 ≤ n := by
    by_cases h : n ≤ 2147483647
    · have := hn h; omega
    · omega
  have HN : Hid (n ≤ 2147483647 → n = (len : Int) + (wsum T len : Int)) := hn
  clear hn
  obtain ⟨m, hm⟩ : ∃ m, addF (s.length : Int) n = m := ⟨_, rfl⟩
  have HM : Hid (m ≤ 2147483647 → n ≤ 2147483647 ∧ (s.length : Int) + n ≤ 2147483647) := by
    show m ≤ 2147483647 → n ≤ 2147483647 ∧ (s.length : Int) + n ≤ 2147483647
    intro h
    subst hm
    unfold addF at h
    split at h
    · omega
    · omega
  have H5 : Hid (Calls Tryd.prog 5 #[.int .i64 (s.length : Int), .int .i64 n] w fun e w' => e = .returned (.int .i64 m) ∧ w' = w) := by
    have := HADD.out (s.length : Int) n w (by omega) hn0
    rw [hm] at this
    exact this
  clear hm
  go_wp2_with fail
  refine H5.out.mono ?_
  rintro e w0 ⟨rfl, hw0⟩
  have hw1 := hw0.symm
  clear hw0
  subst hw1
  by_cases hb : 2147483647 < m
  · go_wp2
    go_ret
    exact ⟨rfl, Below.refl _ _⟩
  have HS : Hid (s.length ≤ 2147483647 ∧ len ≤ 2147483647) := by
    have h1 := HM.out (by omega)
    have h2 := HN.out h1.1
    exact ⟨by omega, by omega⟩
  clear HN HM hn0
  go_wp2_with fail
  refine HAW.out.mono ?_
  rintro e w1 ⟨rfl, hB1⟩
  have HB1 : Hid (Below w.heap.size w w1) := hB1
  clear hB1
  go_wp2_with fail
  refine (HNR.out _).mono ?_
  rintro e w2 ⟨rfl, rfl⟩
  go_wp2_with fail
  go_loopw [7, 8] (fun dv i wr => ∃ k : Nat, i = .int .i64 k ∧ k ≤ len ∧ Hid (DN w.heap.size w (opsL K N MM O T A B k) dv k wr)) (fun _ i _ => len - (intOf i).toNat)
  case atStart => exact ⟨0, rfl, by omega, DN.start HB1.out _⟩
  case round =>
    obtain ⟨k, rfl, hk, HD⟩ := hrel
    by_cases hlt : k < len
    · obtain rfl := HO.out (by omega)
      have hwr : Ops wr b off len K N MM O T A B := HOP.out.below (HD.out.low.block b (HOP.out.lt (by omega)))
      have HWR : Hid (Ops wr b off len K N MM O T A B) := hwr
      clear hwr
      go_wp2_with fail
      refine (HNW.out _).mono ?_
      rintro e w3 ⟨rfl, rfl⟩
      go_wp2_with fail
      refine (HNR.out _).mono ?_
      rintro e w3 ⟨rfl, rfl⟩
      have hwr : Ops ((wr.alloc (.cells #[.int .i64 (s.length : Int), .slice none 0 0, .nilIface] 58)).alloc (.cells #[.string ⟨s.toArray⟩, .nilIface] 67)) b off len K N MM O T A B := HWR.out.below ((((Below.refl wr.heap.size wr).alloc (Nat.le_refl _) _).alloc (by simp) _).block b (HWR.out.lt (by omega)))
      have d0 := hwr.c0 k hlt
      have d1 := hwr.c1 k hlt
      have d2 := hwr.c2 k hlt
      have d3 := hwr.c3 k hlt
      have d4 := hwr.c4 k hlt
      have d5 := hwr.c5 k hlt
      have d6 := hwr.c6 k hlt
      clear hwr
      obtain ⟨inf, hi1, hi2, hi3, hi4⟩ := info32_ex
      have HI : Hid (Tryd.prog.info? 32 = some inf ∧ inf.zero = some (.agg #[.int .i64 0, .int .i64 0, .int .i64 0, .bool false, .string ⟨#[]⟩, .int .u32 0, .int .u64 0]) ∧ inf.size = 7 ∧ inf.bytes = 64) := ⟨hi1, hi2, hi3, hi4⟩
      clear hi1 hi2 hi3 hi4
      have HOW : Hid ((((wr.alloc (.cells #[.int .i64 (s.length : Int), .slice none 0 0, .nilIface] 58)).alloc (.cells #[.string ⟨s.toArray⟩, .nilIface] 67)).alloc (.cells #[.int .i64 (K k), .int .i64 (N k), .int .i64 (MM k), .bool (O k), .string (T k), .int .u32 (A k), .int .u64 (B k)] 32)).ownsRow w.heap.size 32 7 u7 k (opsL K N MM O T A B k)) := ((HD.out.own.alloc _).alloc _).alloc _
      have HBS : Hid (w.heap.size ≤ wr.heap.size) := HD.out.sz
      have HNB : Hid ((((wr.alloc (.cells #[.int .i64 (s.length : Int), .slice none 0 0, .nilIface] 58)).alloc (.cells #[.string ⟨s.toArray⟩, .nilIface] 67)).alloc (.cells #[.int .i64 (K k), .int .i64 (N k), .int .i64 (MM k), .bool (O k), .string (T k), .int .u32 (A k), .int .u64 (B k)] 32)).heap[wr.heap.size + 1 + 1]? = some (.cells #[.int .i64 (K k), .int .i64 (N k), .int .i64 (MM k), .bool (O k), .string (T k), .int .u32 (A k), .int .u64 (B k)] 32)) := by
        have := heap_alloc_new ((wr.alloc (.cells #[.int .i64 (s.length : Int), .slice none 0 0, .nilIface] 58)).alloc (.cells #[.string ⟨s.toArray⟩, .nilIface] 67)) (.cells #[.int .i64 (K k), .int .i64 (N k), .int .i64 (MM k), .bool (O k), .string (T k), .int .u32 (A k), .int .u64 (B k)] 32)
        rwa [show ((wr.alloc (.cells #[.int .i64 (s.length : Int), .slice none 0 0, .nilIface] 58)).alloc (.cells #[.string ⟨s.toArray⟩, .nilIface] 67)).heap.size = wr.heap.size + 1 + 1 by simp] at this
      have HK2 : Hid ((k + 1) * 64 ≤ 140737488355328) := by
        show (k + 1) * 64 ≤ 140737488355328
        have h2 := HS.out.2
        omega
      have HRD : Hid (∀ (w4 : World) (g cap : Nat), w4.ownsRow w.heap.size 32 7 (.slice (some ⟨g, 0, none⟩) (k + 1) cap) (k + 1) (opsL K N MM O T A B k ++ opL K N MM O T A B k) → (((wr.alloc (.cells #[.int .i64 (s.length : Int), .slice none 0 0, .nilIface] 58)).alloc (.cells #[.string ⟨s.toArray⟩, .nilIface] 67)).alloc (.cells #[.int .i64 (K k), .int .i64 (N k), .int .i64 (MM k), .bool (O k), .string (T k), .int .u32 (A k), .int .u64 (B k)] 32)).grownBy w4 (Value.ownBlock u7) → (Value.ownBlock u7 = some g ∨ g = (((wr.alloc (.cells #[.int .i64 (s.length : Int), .slice none 0 0, .nilIface] 58)).alloc (.cells #[.string ⟨s.toArray⟩, .nilIface] 67)).alloc (.cells #[.int .i64 (K k), .int .i64 (N k), .int .i64 (MM k), .bool (O k), .string (T k), .int .u32 (A k), .int .u64 (B k)] 32)).heap.size) → g < w4.heap.size → DK w.heap.size w s (opsL K N MM O T A B (k + 1)) g cap (k + 1) (wr.heap.size + 1) wr.heap.size w4) := fun w4 g cap h1 h2 h3 h4 => HD.out.round _ _ h1 h2 h3 h4
      clear HD
      go_wp2_with (at_builtin; refine wpList_append_lies _ rfl (.tmp 48) (.tmp 53) 22 rfl w.heap.size 32 inf (.agg #[.int .i64 0, .int .i64 0, .int .i64 0, .bool false, .string ⟨#[]⟩, .int .u32 0, .int .u64 0]) 7 64 Tryd.underlying22 HI.out.1 HI.out.2.1 HI.out.2.2.1 HI.out.2.2.2 rfl (by decide) u7 k (opsL K N MM O T A B k) rfl HOW.out ⟨wr.heap.size + 1 + 1, 0, none⟩ 1 1 (opL K N MM O T A B k) rfl rfl (World.news_of_block (cs := #[.int .i64 (K k), .int .i64 (N k), .int .i64 (MM k), .bool (O k), .string (T k), .int .u32 (A k), .int .u64 (B k)]) (t := 32) (fr := (0, 0)) HNB.out) (opsL_one K N MM O T A B k) (by decide) (by unfold maxLen; have := HK2.out; omega) HK2.out (by simp; have := HBS.out; omega) _ rfl ?_; intro g cap2 w4 hown hgrow hat hlt2; have HDK : Hid (DK w.heap.size w s (opsL K N MM O T A B (k + 1)) g cap2 (k + 1) (wr.heap.size + 1) wr.heap.size w4) := HRD.out w4 g cap2 hown hgrow hat hlt2; clear hown hgrow hat hlt2)
      obtain ⟨q, hq⟩ : ∃ q, wr.heap.size + 1 = q := ⟨_, rfl⟩
      obtain ⟨p, hp⟩ : ∃ p, wr.heap.size = p := ⟨_, rfl⟩
      rw [hq] at HDK
      rw [hp] at HDK
      obtain ⟨wo, rfl⟩ : ∃ wo, wo = wr := ⟨_, rfl⟩
      rw [hq, hp]
      clear hq hp HRD HNB HOW HBS HWR d0 d1 d2 d3 d4 d5 d6
      go_loopw [11] (fun i wr => ∃ j : Nat, i = .int .i64 j ∧ j ≤ k + 1 ∧ Hid (DK w.heap.size w s (opsL K N MM O T A B (k + 1)) g cap2 (k + 1) q p wr)) (fun i _ => k + 1 - (intOf i).toNat)
      case atStart => exact ⟨0, rfl, by omega, HDK⟩
      case round =>
        obtain ⟨j, rfl, hj, HJ⟩ := hrel
        by_cases hjl : j < k + 1
        · have hwr : Ops wr g 0 (k + 1) K N MM O T A B := ops_of_row HJ.out.dn.own (fun i hi => HOP.out.n i (by omega)) (fun i hi => HOP.out.m i (by omega)) (fun i hi => HOP.out.a i (by omega)) (fun i hi => HOP.out.b i (by omega))
          have d0 := hwr.c0 j hjl
          have d1 := hwr.c1 j hjl
          have d2 := hwr.c2 j hjl
          have d3 := hwr.c3 j hjl
          have d4 := hwr.c4 j hjl
          have d5 := hwr.c5 j hjl
          have d6 := hwr.c6 j hjl
          simp only [Nat.zero_add] at d0 d1 d2 d3 d4 d5 d6
          have H15 : Hid (Calls Tryd.prog 15 #[.pointer (some ⟨q, 0, none⟩), .pointer (some ⟨p, 0, none⟩), opcV (K j) (N j) (MM j) (O j) (T j) (A j) (B j)] wr fun e w' => e = .returned (.tuple #[]) ∧ DK w.heap.size w s (opsL K N MM O T A B (k + 1)) g cap2 (k + 1) q p w') :=
            HJ.out.step (ag_any s HS.out.1 (K j) (N j) (MM j) (O j) (T j) (A j) (B j) (HOP.out.n j (by omega)).1 (HOP.out.n j (by omega)).2)
          unfold opcV at H15
          clear hwr
          go_wp2_with fail
          refine H15.out.mono ?_
          rintro e w5 ⟨rfl, hi⟩
          have HJ2 : Hid (DK w.heap.size w s (opsL K N MM O T A B (k + 1)) g cap2 (k + 1) q p w5) := hi
          clear hi H15 HJ
          go_wp2
          go_roundw
          case rel => exact ⟨j + 1, by go_num, by omega, HJ2⟩
          case measure => simp [intOf]; omega
        · obtain rfl : j = k + 1 := by omega
          obtain ⟨v, l, E, S, F, hph⟩ := HJ.out.ph
          obtain ⟨dv, hdv⟩ : ∃ dv, Value.slice (some ⟨g, 0, none⟩) (k + 1) cap2 = dv := ⟨_, rfl⟩
          have HP : Hid (PH w.heap.size w s q p v l E S F (.slice (some ⟨g, 0, none⟩) (k + 1) cap2) (opsL K N MM O T A B (k + 1)) (k + 1) wr) := hph
          clear hph HJ hdv
          have HWR : Hid (∀ wx, PH w.heap.size w s q p v l E S F (.slice (some ⟨g, 0, none⟩) (k + 1) cap2) (opsL K N MM O T A B (k + 1)) (k + 1) wx → Calls Tryd.prog 16 #[.pointer (some ⟨q, 0, none⟩)] wx fun e w' => e = .returned (.int .i64 E) ∧ PH w.heap.size w s q p v l E S F (.slice (some ⟨g, 0, none⟩) (k + 1) cap2) (opsL K N MM O T A B (k + 1)) (k + 1) w') := fun wx h => h.wrong HER.out
          have HLE : Hid (∀ wx, PH w.heap.size w s q p v l E S F (.slice (some ⟨g, 0, none⟩) (k + 1) cap2) (opsL K N MM O T A B (k + 1)) (k + 1) wx → Calls Tryd.prog 17 #[.pointer (some ⟨q, 0, none⟩)] wx fun e w' => e = .returned (.int .i64 (l.length : Int)) ∧ PH w.heap.size w s q p v l E S F (.slice (some ⟨g, 0, none⟩) (k + 1) cap2) (opsL K N MM O T A B (k + 1)) (k + 1) w') := fun wx h => h.left
          go_wp2_with fail
          refine (HWR.out _ HP.out).mono ?_
          rintro e w6 ⟨rfl, hi⟩
          have HP6 : Hid (PH w.heap.size w s q p v l E S F (.slice (some ⟨g, 0, none⟩) (k + 1) cap2) (opsL K N MM O T A B (k + 1)) (k + 1) w6) := hi
          clear hi HP
          by_cases hE0 : E = 0
          · have hEb : (E != 0) = false := by rw [hE0]; rfl
            obtain ⟨hF, hSl⟩ := HP6.out.ag.ok hE0
            have HWD : Hid (Calls Tryd.prog 10 #[.pointer (some ⟨p, 0, none⟩)] w6 fun e w' => e = .returned (.tuple #[.string S, .int .i64 0]) ∧ PH w.heap.size w s q p v l E S F (.slice (some ⟨g, 0, none⟩) (k + 1) cap2) (opsL K N MM O T A B (k + 1)) (k + 1) w') := HP6.out.wdone HER.out hF
            have HSL : Hid (S.data.toList ++ l = s) := hSl
            clear hF hSl hE0
            go_wp2_with fail
            refine HWD.out.mono ?_
            rintro e w7 ⟨rfl, hi⟩
            have HP7 : Hid (PH w.heap.size w s q p v l E S F (.slice (some ⟨g, 0, none⟩) (k + 1) cap2) (opsL K N MM O T A B (k + 1)) (k + 1) w7) := hi
            clear hi HP6 HWD
            have hsl : ∀ w, (Instr.slice 9 (.string ⟨s.toArray⟩) none (some (.int .i64 ((s.length : Int) - (l.length : Int)))) none).run Tryd.prog w = .ok (.string S) w := fun w => slice_front w s l S HSL.out
            have hll : (l.length : Int) ≤ (s.length : Int) := by have := HP7.out.ag.ll; omega
            have hs9 : (s.length : Int) ≤ 2147483647 := by have := HS.out.1; omega
            go_wp2_with fail
            refine (HLE.out _ HP7.out).mono ?_
            rintro e w8 ⟨rfl, hi⟩
            have HP8 : Hid (PH w.heap.size w s q p v l E S F (.slice (some ⟨g, 0, none⟩) (k + 1) cap2) (opsL K N MM O T A B (k + 1)) (k + 1) w8) := hi
            clear hi HP7
            go_wp2
            go_roundw
            case rel => exact ⟨k + 1, by go_num, by omega, HP8.out.dn⟩
            case measure => simp [intOf]; omega
          · have hEb : (E != 0) = true := bne_iff_ne.2 hE0
            have HIN : Hid (∀ wx, PH w.heap.size w s q p v l E S F (.slice (some ⟨g, 0, none⟩) (k + 1) cap2) (opsL K N MM O T A B (k + 1)) (k + 1) wx → Calls Tryd.prog 18 #[.pointer (some ⟨q, 0, none⟩)] wx fun e w' => e = .returned (.int .i64 0) ∧ PH w.heap.size w s q p v l E S F (.slice (some ⟨g, 0, none⟩) (k + 1) cap2) (opsL K N MM O T A B (k + 1)) (k + 1) w') := fun wx h => h.int hE0
            have HRE : Hid (∀ wx, PH w.heap.size w s q p v l E S F (.slice (some ⟨g, 0, none⟩) (k + 1) cap2) (opsL K N MM O T A B (k + 1)) (k + 1) wx → Calls Tryd.prog 19 #[.pointer (some ⟨q, 0, none⟩)] wx fun e w' => e = .returned (.string ⟨#[]⟩) ∧ PH w.heap.size w s q p v l E S F (.slice (some ⟨g, 0, none⟩) (k + 1) cap2) (opsL K N MM O T A B (k + 1)) (k + 1) w') := fun wx h => h.rest hE0 HS.out.1
            have HDO : Hid (∀ wx, PH w.heap.size w s q p v l E S F (.slice (some ⟨g, 0, none⟩) (k + 1) cap2) (opsL K N MM O T A B (k + 1)) (k + 1) wx → Calls Tryd.prog 14 #[.pointer (some ⟨q, 0, none⟩)] wx fun e w' => e = .returned (.int .i64 E) ∧ PH w.heap.size w s q p v l E S F (.slice (some ⟨g, 0, none⟩) (k + 1) cap2) (opsL K N MM O T A B (k + 1)) (k + 1) w') := fun wx h => h.done HER.out hE0
            clear hE0
            go_wp2_with fail
            refine (HLE.out _ HP6.out).mono ?_
            rintro e w7 ⟨rfl, hi⟩
            have HP7 : Hid (PH w.heap.size w s q p v l E S F (.slice (some ⟨g, 0, none⟩) (k + 1) cap2) (opsL K N MM O T A B (k + 1)) (k + 1) w7) := hi
            clear hi HP6
            go_wp2_with fail
            refine (HIN.out _ HP7.out).mono ?_
            rintro e w8 ⟨rfl, hi⟩
            have HP8 : Hid (PH w.heap.size w s q p v l E S F (.slice (some ⟨g, 0, none⟩) (k + 1) cap2) (opsL K N MM O T A B (k + 1)) (k + 1) w8) := hi
            clear hi HP7
            go_wp2_with fail
            refine (HLE.out _ HP8.out).mono ?_
            rintro e w9 ⟨rfl, hi⟩
            have HP9 : Hid (PH w.heap.size w s q p v l E S F (.slice (some ⟨g, 0, none⟩) (k + 1) cap2) (opsL K N MM O T A B (k + 1)) (k + 1) w9) := hi
            clear hi HP8
            go_wp2_with fail
            refine (HRE.out _ HP9.out).mono ?_
            rintro e w10 ⟨rfl, hi⟩
            have HP10 : Hid (PH w.heap.size w s q p v l E S F (.slice (some ⟨g, 0, none⟩) (k + 1) cap2) (opsL K N MM O T A B (k + 1)) (k + 1) w10) := hi
            clear hi HP9
            go_wp2_with fail
            refine (HDO.out _ HP10.out).mono ?_
            rintro e w11 ⟨rfl, hi⟩
            have HP11 : Hid (PH w.heap.size w s q p v l E S F (.slice (some ⟨g, 0, none⟩) (k + 1) cap2) (opsL K N MM O T A B (k + 1)) (k + 1) w11) := hi
            clear hi HP10
            go_wp2_with fail
            refine (HWR.out _ HP11.out).mono ?_
            rintro e w12 ⟨rfl, hi⟩
            have HP12 : Hid (PH w.heap.size w s q p v l E S F (.slice (some ⟨g, 0, none⟩) (k + 1) cap2) (opsL K N MM O T A B (k + 1)) (k + 1) w12) := hi
            clear hi HP11
            go_wp2
            go_ret
            refine ⟨?_, HP12.out.dn.low⟩
            first | rfl | (show Ending.returned (.bool (E == E)) = _; rw [beq_self_eq_true])
    · obtain rfl : k = len := by omega
      go_wp2
      go_ret
      exact ⟨rfl, HD.out.low⟩
end Go.Proofs.YtlkhgnjljdbhnabDoor
