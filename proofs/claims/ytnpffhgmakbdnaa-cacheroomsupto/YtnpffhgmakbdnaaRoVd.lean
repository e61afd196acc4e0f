/- CacheRooms: its walk. -/
import Derived.Test.YtnpffhgmakbdnaaRoVe
import Derived.Deep.CutBlock
import Derived.Deep.CutRange
namespace Go.Proofs.Ytnpffhgmakbdnaa
open Go.RowKit
theorem decoy {D P : Prop} (_ : D) (h : Hid P) : P := h
structure SentR where
  who : Int
  n : Int
  nw : Bool
  an : Bool
  en : Bool
def seC (s : SentR) : Array Value := #[.int .i64 s.who, .int .i64 s.n, .bool s.nw, .bool s.an, .bool s.en]
structure SentsAt (w : World) (b off len : Nat) (S : Nat → SentR) : Prop where
  c : ∀ i, i < len → ∀ k, k < 5 → w.cell? ⟨b, off + i * 5 + k, none⟩ = (seC (S i))[k]?
  ok : ∀ i, i < len → In64 (S i).who ∧ In64 (S i).n
theorem SentsAt.below {w w' : World} {b off len : Nat} {S : Nat → SentR} (h : SentsAt w b off len S) (hB : Below w.heap.size w w') : SentsAt w' b off len S := by
  refine ⟨fun i hi k hk => ?_, h.ok⟩
  have h1 := h.c i hi 0 (by omega)
  have hlt := World.block_lt_of_cell? w ⟨b, off + i * 5 + 0, none⟩ h1
  exact (World.cell?_of_block (a := ⟨b, off + i * 5 + k, none⟩) (hB.block b hlt)).trans (h.c i hi k hk)
theorem bld23 (w : World) (a b c : Int) : (Instr.build 23 #[(0, .int .i64 a), (1, .int .i64 b), (3, .int .i64 64), (2, .int .i64 c)]).run Try.prog w = .ok (.agg #[.int .i64 a, .int .i64 b, .int .i64 c, .int .i64 64]) w := by kernel_rfl
theorem bls57 (w : World) (a : Int) : (Instr.buildSlice 57 1 #[(0, .int .i64 a)]).run Try.prog w = .ok (.slice (some ⟨w.heap.size, 0, none⟩) 1 1) (w.alloc (.cells #[.int .i64 a] 3)) := by kernel_rfl
theorem gR_ok {n m : Nat} (h1 : 1 ≤ n) (h2 : n ≤ 8) (h3 : 1 ≤ m) (h4 : m ≤ 64) : CfOk (gR n m) := by
  have a : 64 * n * m ≤ 64 * 8 * 64 := Nat.mul_le_mul (Nat.mul_le_mul_left _ h2) h4
  have b : 64 * 1 * 1 ≤ 64 * n * m := Nat.mul_le_mul (Nat.mul_le_mul_left _ h1) h3
  exact ⟨⟨h1, by show n ≤ 64; omega⟩, ⟨h3, h4⟩, ⟨Nat.le_refl _, by show 64 ≤ 1100; omega⟩, ⟨by show 64 ≤ 64 * n * m; omega, by show 64 * n * m ≤ 1048576; omega⟩⟩
abbrev answer : ByteArray := ⟨#[97, 110, 115, 119, 101, 114]⟩
set_option maxHeartbeats 8000000 in
set_option maxRecDepth 8000 in
theorem rooms_any (ci ei : Int) (hci : In64 ci) (hei : In64 ei) (oS : Option Addr) (sb off len cap : Nat) (S : Nat → SentR) (w : World) (hoa : 0 < len → oS = some ⟨sb, off, none⟩) (hops : SentsAt w sb off len S) (hlen : len ≤ 1048576) :
    Calls Try.prog 5 #[.int .i64 ci, .int .i64 ei, .slice oS len cap] w fun e w' => e = .returned (.bool true) ∧ Below w.heap.size w w' := by
  have HL := hid hlen
  have HO := hid hops
  have HA := hid hoa
  have HP1 := hid (fun w => pick_any ci 8 w hci.1 hci.2 (by omega) (by omega))
  have HP2 := hid (fun w => pick_any ei 64 w hei.1 hei.2 (by omega) (by omega))
  obtain ⟨n, hn1, hn8, hn⟩ : ∃ n : Nat, 1 ≤ n ∧ n ≤ 8 ∧ pickP ci 8 = (n : Int) - 1 := by
    have := pickP_in ci 8 (by omega)
    exact ⟨(pickP ci 8 + 1).toNat, by omega, by omega, by omega⟩
  obtain ⟨m, hm1, hm8, hm⟩ : ∃ m : Nat, 1 ≤ m ∧ m ≤ 64 ∧ pickP ei 64 = (m : Int) - 1 := by
    have := pickP_in ei 64 (by omega)
    exact ⟨(pickP ei 64 + 1).toNat, by omega, by omega, by omega⟩
  rw [hn] at HP1
  rw [hm] at HP2
  have HNM := hid (And.intro (And.intro hn1 hn8) (And.intro hm1 hm8))
  have HG := hid (gR_ok hn1 hn8 hm1 hm8)
  obtain ⟨nI, hnI⟩ : ∃ nI : Int, (n : Int) = nI := ⟨_, rfl⟩
  obtain ⟨mI, hmI⟩ : ∃ mI : Int, (m : Int) = mI := ⟨_, rfl⟩
  obtain ⟨pI, hpI⟩ : ∃ pI : Int, (n : Int) - 1 = pI := ⟨_, rfl⟩
  obtain ⟨qI, hqI⟩ : ∃ qI : Int, (m : Int) - 1 = qI := ⟨_, rfl⟩
  obtain ⟨bI, hbI⟩ : ∃ bI : Int, ((64 * n * m : Nat) : Int) = bI := ⟨_, rfl⟩
  obtain ⟨b6, hb6⟩ : ∃ b6 : Int, 64 * nI = b6 := ⟨_, rfl⟩
  rw [hpI] at HP1
  rw [hqI] at HP2
  have u1 : wrap64 (1 + pI) = nI := by unfold wrap64; omega
  have u2 : wrap64 (1 + qI) = mI := by unfold wrap64; omega
  have u3 : wrap64 (64 * nI) = b6 := by unfold wrap64; omega
  have hb : bI = b6 * mI := by rw [← hbI, ← hb6, ← hnI, ← hmI]; simp [Int.natCast_mul]
  have hb2 : (0 : Int) ≤ bI ∧ bI ≤ 32768 := by
    have a : 64 * n * m ≤ 64 * 8 * 64 := Nat.mul_le_mul (Nat.mul_le_mul_left _ hn8) hm8
    omega
  have u4 : wrap64 (b6 * mI) = bI := by rw [← hb]; unfold wrap64; omega
  have HNEW := hid (fun w => new_good w (gR n m) HG.out)
  have hcf : cfV (gR n m) = .agg #[.int .i64 nI, .int .i64 mI, .int .i64 bI, .int .i64 64] := by
    show Value.agg #[.int .i64 (n : Nat), .int .i64 (m : Nat), .int .i64 ((64 * n * m : Nat) : Int), .int .i64 ((64 : Nat) : Int)] = _
    rw [hnI, hmI, hbI]; rfl
  rw [hcf] at HNEW
  have b23 := bld23
  have HLET := hid (And.intro hnI hmI)
  clear hops hoa hlen hci hei hn hm hn1 hn8 hm1 hm8 hpI hqI hbI hb6 hb hb2 hcf hnI hmI
  go_enter Try.func5, Try.ntmps5
  go_wp2_with fail
  refine (known_all w).mono ?_
  rintro _ w1 ⟨rfl, e1⟩
  have HB1 := hid e1
  clear e1
  go_wp2_with fail
  refine (HP1.out _).mono ?_
  rintro _ w' ⟨rfl, hw'⟩
  subst hw'
  go_wp2_with fail
  refine (HP2.out _).mono ?_
  rintro _ w'' ⟨rfl, hw'⟩
  subst hw'
  go_wp2_with fail
  refine (HNEW.out _).mono ?_
  rintro _ w2 ⟨p, mm, rfl, ha, e2, lp, lm⟩
  obtain ⟨w3, hw3⟩ : ∃ w3, w2.alloc (.cells #[.slice none 0 0, .slice none 0 0, .slice none 0 0, .slice none 0 0, .slice none 0 0, .slice none 0 0, .slice none 0 0, .slice none 0 0] 58) = w3 := ⟨_, rfl⟩
  obtain ⟨Wb, hWb⟩ : ∃ Wb, w2.heap.size = Wb := ⟨_, rfl⟩
  obtain ⟨w4, hw4⟩ : ∃ w4, w3.alloc (.cells #[.int .i64 0, .int .i64 0, .int .i64 0, .int .i64 0, .int .i64 0, .int .i64 0, .int .i64 0, .int .i64 0] 59) = w4 := ⟨_, rfl⟩
  obtain ⟨Nb, hNb⟩ : ∃ Nb, w3.heap.size = Nb := ⟨_, rfl⟩
  obtain ⟨K4, H4⟩ : ∃ K4, Hid (RS w w4 K4 p mm Wb Nb n m [] #[.slice none 0 0, .slice none 0 0, .slice none 0 0, .slice none 0 0, .slice none 0 0, .slice none 0 0, .slice none 0 0, .slice none 0 0] #[.int .i64 0, .int .i64 0, .int .i64 0, .int .i64 0, .int .i64 0, .int .i64 0, .int .i64 0, .int .i64 0] (fun _ => 0) (fun _ => 0) (fun _ => 0) 0) := by
    have v1 := Mv.of_below HB1.out (fun _ => 0) (fun _ => 9)
    have s1 := (BS.first w).mv v1 id
    obtain ⟨K2, t2, v2⟩ := TC.made ha e2 lp lm (ext w (fun _ => 0) (fun _ => 9)) 1
    have s2 := s1.mv v2 id
    have v3 := Mv.alloc w2 K2 (fun _ => 2) (.cells #[.slice none 0 0, .slice none 0 0, .slice none 0 0, .slice none 0 0, .slice none 0 0, .slice none 0 0, .slice none 0 0, .slice none 0 0] 58)
    have t3 := TB.new w2 K2 (fun _ => 2) (.cells #[.slice none 0 0, .slice none 0 0, .slice none 0 0, .slice none 0 0, .slice none 0 0, .slice none 0 0, .slice none 0 0, .slice none 0 0] 58) (t := 2) rfl
    rw [hw3] at v3 t3
    rw [hWb] at t3
    have v4 := Mv.alloc w3 (ext w2 K2 (fun _ => 2)) (fun _ => 3) (.cells #[.int .i64 0, .int .i64 0, .int .i64 0, .int .i64 0, .int .i64 0, .int .i64 0, .int .i64 0, .int .i64 0] 59)
    have t4 := TB.new w3 (ext w2 K2 (fun _ => 2)) (fun _ => 3) (.cells #[.int .i64 0, .int .i64 0, .int .i64 0, .int .i64 0, .int .i64 0, .int .i64 0, .int .i64 0, .int .i64 0] 59) (t := 3) rfl
    rw [hw4] at v4 t4
    rw [hNb] at t4
    refine ⟨_, ⟨(s2.mv v3 id).mv v4 id, t3.mv v4 id, t4, rfl, rfl, fun x hx => ⟨.slice none 0 0, ?_, WT.nil _ _ _ _⟩, fun x hx => ?_⟩, (t2.mv v3 id).mv v4 id, ⟨fun x => .inr ⟨rfl, rfl⟩, fun c hc => by simp at hc, fun x _ h2 => by omega⟩, fun x => .inl rfl, fun x => by omega⟩
    · match x, hx with
      | 0, _ => rfl
      | 1, _ => rfl
      | 2, _ => rfl
      | 3, _ => rfl
      | 4, _ => rfl
      | 5, _ => rfl
      | 6, _ => rfl
      | 7, _ => rfl
    · match x, hx with
      | 0, _ => rfl
      | 1, _ => rfl
      | 2, _ => rfl
      | 3, _ => rfl
      | 4, _ => rfl
      | 5, _ => rfl
      | 6, _ => rfl
      | 7, _ => rfl
  clear ha e2 lp lm HB1 u1 u3 u4 b23 HNEW HP1 HP2
  go_wp2_with fail
  go_loopw [14] (fun u14 wr => ∃ (i : Nat) (K : Nat → Nat) (C : List Cl) (cs ns : Array Value) (nx lo ln : Nat → Nat), u14 = .int .i64 i ∧ i ≤ len ∧ RS w wr K p mm Wb Nb n m C cs ns nx lo ln i) (fun u14 _ => len - (intOf u14).toNat)
  case atStart => exact ⟨0, K4, [], _, _, _, _, _, rfl, Nat.zero_le _, H4.out⟩
  case round =>
    obtain ⟨i, K, C, cs, ns, nx, lo, ln, rfl, hi, hs⟩ := hrel
    obtain ⟨wo, hwo⟩ : ∃ wo, wo = wr := ⟨_, rfl⟩
    subst hwo
    have HS := hid hs
    have HI := hid hi
    clear hs hi H4 hw3 hWb hw4 hNb
    by_cases hlt : i < len
    · have hi' : (i : Int) < (len : Int) := by omega
      have hoa2 := HA.out (by omega)
      subst hoa2
      have hwi : wrap64 ((i : Int) + 1) = (i : Int) + 1 := by have h1 := HL.out; unfold wrap64; omega
      obtain ⟨s, hs⟩ : ∃ s, S i = s := ⟨_, rfl⟩
      have HQ : Hid (∀ w', Below w.heap.size w w' → ∀ k, k < 5 → w'.cell? ⟨sb, off + i * 5 + k, none⟩ = (seC s)[k]?) := fun w' h' => by
        have := (HO.out.below h').c i hlt
        rwa [hs] at this
      have hok := HO.out.ok i hlt
      rw [hs] at hok
      clear hs
      obtain ⟨who, nn, nw, an, en⟩ := s
      have HP := hid (fun w => pick_any who nI w hok.1.1 hok.1.2 (by have := HLET.out; have := HNM.out; omega) (by have := HLET.out; have := HNM.out; omega))
      obtain ⟨x, hxn, hx⟩ : ∃ x : Nat, x < n ∧ pickP who nI = (x : Int) := by
        have := pickP_in who nI (by have := HLET.out; have := HNM.out; omega)
        have := HLET.out
        exact ⟨(pickP who nI).toNat, by omega, by omega⟩
      rw [hx] at HP
      have HX : Hid (x < n ∧ x < 8) := ⟨hxn, by have := HNM.out; omega⟩
      have hx8 : (x : Int) < 8 := by have := HNM.out; omega
      have HON := hid hok.2
      have q0 : wo.cell? ⟨sb, off + i * 5, none⟩ = some (.int .i64 who) := HQ.out _ HS.out.ms.bs.be 0 (by omega)
      clear hok hx hxn
      go_wp2_with fail
      refine (HP.out _).mono ?_
      rintro _ w' ⟨rfl, hw'⟩
      subst hw'
      obtain ⟨wo, hwo⟩ : ∃ wo, wo = w' := ⟨_, rfl⟩
      subst hwo
      obtain ⟨v, hv, _, hwt⟩ := HS.out.ms.wc HX.out.2
      obtain ⟨oa, vc, hvf, hvl⟩ := hwt.form
      obtain ⟨l, hl⟩ : ∃ l, ln x = l := ⟨_, rfl⟩
      rw [hl] at hvf hwt
      subst hvf
      have HV := hid (And.intro hv hwt)
      clear hv hwt hvl HP q0
      by_cases hz : nx x = 0
      · have hl0 : l = 0 := by have := HS.out.rm.le x; omega
        subst hl0
        have n0 : wo.cell? ⟨Nb, x, none⟩ = some (.int .i64 0) := by have h9 := HS.out.ms.nc HX.out.2; rw [hz] at h9; exact h9
        have f0 := HS.out.ms.nf x
        obtain ⟨wq, hwq⟩ : ∃ wq, wo.setCell ⟨Nb, x, none⟩ (.int .i64 1) = wq := ⟨_, rfl⟩
        have HSq : Hid (RS w wq K p mm Wb Nb n m C cs (ns.setIfInBounds x (.int .i64 (1 : Nat))) (upd nx x 1) lo ln i) := by rw [← hwq]; exact HS.out.one HX.out.2 hz
        obtain ⟨k, hk⟩ : ∃ k, upd nx x 1 x = k := ⟨_, rfl⟩
        have HK : Hid (upd nx x 1 x = k ∧ ln x = 0 ∧ 1 ≤ k) := ⟨hk, hl, by rw [← hk, upd_same]; exact Nat.le_refl _⟩
        obtain ⟨l, hll⟩ : ∃ l, l = 0 := ⟨_, rfl⟩
        subst hll
        clear HS hk hl hz
        obtain ⟨kI, hkI⟩ : ∃ kI : Int, (k : Int) = kI := ⟨_, rfl⟩
        obtain ⟨kJ, hkJ⟩ : ∃ kJ : Int, ((k + 1 : Nat) : Int) = kJ := ⟨_, rfl⟩
        have HKI := hid (And.intro hkI hkJ)
        have HKB : Hid (1 ≤ k ∧ k ≤ 2000000 ∧ 0 < k) := by
          show _ ∧ _ ∧ _
          have h1 := HSq.out.bd x
          have h2 := HSq.out.small HK.out.1 HK.out.2.1 HK.out.2.2
          have h3 := HK.out
          have h4 := HL.out
          omega
        have hk1 : wrap64 (kI + 1) = kJ := by have h1 := HKB.out; unfold wrap64; omega
        have HIN : Hid (InW (whA x) (whI x)) := by
          obtain ⟨a1, a2⟩ := wh_is x HX.out.2
          show InW _ _
          rw [a1, a2]
          constructor <;> omega
        have n1 : wq.cell? ⟨Nb, x, none⟩ = some (.int .i64 kI) := by have h9 := HSq.out.ms.nc HX.out.2; rw [HK.out.1, hkI] at h9; exact h9
        have v1 : wq.cell? ⟨Wb, x, none⟩ = some (.slice oa 0 vc) := by unfold World.cell?; rw [HSq.out.ms.wb.at_]; exact HV.out.1
        have HRO : Hid (0 < m) := by show 0 < m; have := HNM.out; omega
        have HWI2 : Hid ((k : Int) - ((0 : Nat) : Int) = kI) := by show _ = _; have := HKI.out; omega
        have hs0 : wrap64 (kI - kI) = 0 := by rw [Int.sub_self]; unfold wrap64; omega
        have dm : decide (mI ≤ 0) = false := by have := HLET.out; have := HNM.out; simp; omega
        cases en
        · cases nw
          · have q2 : wq.cell? ⟨sb, off + i * 5 + 2, none⟩ = some (.bool false) := HQ.out _ HSq.out.ms.bs.be 2 (by omega)
            have q4 : wq.cell? ⟨sb, off + i * 5 + 4, none⟩ = some (.bool false) := HQ.out _ HSq.out.ms.bs.be 4 (by omega)
            obtain ⟨w1, hw1⟩ : ∃ w1, wq.setCell ⟨Nb, x, none⟩ (.int .i64 kJ) = w1 := ⟨_, rfl⟩
            obtain ⟨w2, hw2⟩ : ∃ w2, w1.alloc (.cells #[.int .i64 kI] 3) = w2 := ⟨_, rfl⟩
            obtain ⟨N, hN⟩ : ∃ N, w1.heap.size = N := ⟨_, rfl⟩
            have hps := HSq.out.push HX.out.2 HV.out.1 HK.out.1 HK.out.2.1 HK.out.2.2 (by have := HL.out; omega) (w1 := w1) (w2 := w2) (N := N) (by rw [HKI.out.2]; exact hw1) (by rw [HKI.out.1]; exact hw2) hN
            obtain ⟨c1, v', w3, K4, ⟨o', c', rfl⟩, r1, r2, r3, r4, r5⟩ := hps
            obtain ⟨w4, hw4⟩ : ∃ w4, w3.setCell ⟨Wb, x, none⟩ (.slice o' (0 + 1) c') = w4 := ⟨_, rfl⟩
            have HM := hid (And.intro r4 r5)
            rw [hw4] at HM
            have R1 := hid r1
            have HW := hid (who_any (x : Int) w4 (by omega))
            have fq := HSq.out.ms.nf x
            have hbs := fun w => bls57 w kI
            obtain ⟨HD, hHD⟩ : ∃ HD : Prop, HD := ⟨True, trivial⟩
            have HHD := hid hHD
            obtain ⟨sI, hsI⟩ : ∃ sI : Int, kI = sI := ⟨_, rfl⟩
            have HSQ : Hid (-9223372036854775808 ≤ sI ∧ sI ≤ 9223372036854775807) := by show _ ∧ _; have := HKB.out; omega
            have HSI := hid hsI
            clear hHD r1 r4 r5 hsI
            go_upto_region 25 with fail
            go_wp2_with (at_builtin; refine decoy (D := HD) ?_ ?_)
            · exact HHD.out
            refine (show Hid _ from ?_)
            refine wpList_app rfl _ _ 57 rfl _ _ _ _ rfl rfl (R1.out _) ?_
            clear R1 hbs HHD
            as_aux_lemma =>
            go_wp2_with fail
            refine HW.out.mono ?_
            rintro _ w5 ⟨rfl, b5⟩
            have HAS := hid (ask_any (HM.out.2.mv (Mv.of_below b5 K4 (fun _ => 9)) id).pc (whA x) (whI x) kI kI)
            have HB5 := hid b5
            clear b5 HW c1 r2 r3 n1 v1 q2 q4
            go_wp2_with fail
            refine HAS.out.mono ?_
            rintro _ w6 ⟨vv, ss, C', rfl, hR, hP, hC⟩
            obtain ⟨rfl, ⟨K6, hS6⟩, hbusy⟩ := HSq.out.newly HX.out.1 HNM.out.1.2 HNM.out.2.1 HK.out.1 HK.out.2.1 HK.out.2.2 HRO.out (by have := HL.out; omega) HM.out.1 HM.out.2 HB5.out (by rw [HWI2.out, HKI.out.1]; exact hR) hP hC
            have HS6 := hid hS6
            have HBU : Hid (∃ c ∈ C', c.is (whA x) (whI x) ∧ busyE (enAt c.ents sI) = true) := by rw [← HSI.out, ← HKI.out.1]; exact hbusy
            rw [HSI.out]
            clear hR hP hC hS6 hbusy HAS HM HB5 hw1 hw2 hN hw4
            have q3 : w6.cell? ⟨sb, off + i * 5 + 3, none⟩ = some (.bool an) := HQ.out _ HS6.out.ms.bs.be 3 (by omega)
            cases an
            · go_wp2
              go_roundw
              case rel => exact ⟨i + 1, _, _, _, _, _, _, _, by first | (rw [hwi]; rfl) | rfl, hlt, HS6.out⟩
              case measure => first | exact meas hwi hi' | exact meas rfl hi'
            · have HW2 := hid (who_any (x : Int) w6 (by omega))
              go_wp2_with fail
              refine HW2.out.mono ?_
              rintro _ w7 ⟨rfl, b7⟩
              have HDN := hid (done_any (HS6.out.tc.mv (Mv.of_below b7 K6 (fun _ => 9)) id).pc answer HIN.out (i := whI x) (a := whA x) (seq := sI) HSQ.out)
              have HB7 := hid b7
              clear b7 HW2 q3
              go_wp2_with fail
              refine HDN.out.mono ?_
              rintro _ w8 ⟨v8, C8, rfl, hR, hP, hC⟩
              obtain ⟨rfl, K8, hS8⟩ := HS6.out.answered HX.out.1 HNM.out.1.2 rfl HBU.out HB7.out hR hP hC
              have HS8 := hid hS8
              clear hR hP hC hS8 HDN HB7 HS6 HBU
              go_wp2
              go_roundw
              case rel => exact ⟨i + 1, _, _, _, _, _, _, _, by first | (rw [hwi]; rfl) | rfl, hlt, HS8.out⟩
              case measure => first | exact meas hwi hi' | exact meas rfl hi'
          · have q2 : wq.cell? ⟨sb, off + i * 5 + 2, none⟩ = some (.bool true) := HQ.out _ HSq.out.ms.bs.be 2 (by omega)
            have q4 : wq.cell? ⟨sb, off + i * 5 + 4, none⟩ = some (.bool false) := HQ.out _ HSq.out.ms.bs.be 4 (by omega)
            obtain ⟨w1, hw1⟩ : ∃ w1, wq.setCell ⟨Nb, x, none⟩ (.int .i64 kJ) = w1 := ⟨_, rfl⟩
            obtain ⟨w2, hw2⟩ : ∃ w2, w1.alloc (.cells #[.int .i64 kI] 3) = w2 := ⟨_, rfl⟩
            obtain ⟨N, hN⟩ : ∃ N, w1.heap.size = N := ⟨_, rfl⟩
            have hps := HSq.out.push HX.out.2 HV.out.1 HK.out.1 HK.out.2.1 HK.out.2.2 (by have := HL.out; omega) (w1 := w1) (w2 := w2) (N := N) (by rw [HKI.out.2]; exact hw1) (by rw [HKI.out.1]; exact hw2) hN
            obtain ⟨c1, v', w3, K4, ⟨o', c', rfl⟩, r1, r2, r3, r4, r5⟩ := hps
            obtain ⟨w4, hw4⟩ : ∃ w4, w3.setCell ⟨Wb, x, none⟩ (.slice o' (0 + 1) c') = w4 := ⟨_, rfl⟩
            have HM := hid (And.intro r4 r5)
            rw [hw4] at HM
            have R1 := hid r1
            have HW := hid (who_any (x : Int) w4 (by omega))
            have fq := HSq.out.ms.nf x
            have hbs := fun w => bls57 w kI
            obtain ⟨HD, hHD⟩ : ∃ HD : Prop, HD := ⟨True, trivial⟩
            have HHD := hid hHD
            obtain ⟨sI, hsI⟩ : ∃ sI : Int, kI = sI := ⟨_, rfl⟩
            have HSQ : Hid (-9223372036854775808 ≤ sI ∧ sI ≤ 9223372036854775807) := by show _ ∧ _; have := HKB.out; omega
            have HSI := hid hsI
            clear hHD r1 r4 r5 hsI
            go_upto_region 25 with fail
            go_wp2_with (at_builtin; refine decoy (D := HD) ?_ ?_)
            · exact HHD.out
            refine (show Hid _ from ?_)
            refine wpList_app rfl _ _ 57 rfl _ _ _ _ rfl rfl (R1.out _) ?_
            clear R1 hbs HHD
            as_aux_lemma =>
            go_wp2_with fail
            refine HW.out.mono ?_
            rintro _ w5 ⟨rfl, b5⟩
            have HAS := hid (ask_any (HM.out.2.mv (Mv.of_below b5 K4 (fun _ => 9)) id).pc (whA x) (whI x) kI kI)
            have HB5 := hid b5
            clear b5 HW c1 r2 r3 n1 v1 q2 q4
            go_wp2_with fail
            refine HAS.out.mono ?_
            rintro _ w6 ⟨vv, ss, C', rfl, hR, hP, hC⟩
            obtain ⟨rfl, ⟨K6, hS6⟩, hbusy⟩ := HSq.out.newly HX.out.1 HNM.out.1.2 HNM.out.2.1 HK.out.1 HK.out.2.1 HK.out.2.2 HRO.out (by have := HL.out; omega) HM.out.1 HM.out.2 HB5.out (by rw [HWI2.out, HKI.out.1]; exact hR) hP hC
            have HS6 := hid hS6
            have HBU : Hid (∃ c ∈ C', c.is (whA x) (whI x) ∧ busyE (enAt c.ents sI) = true) := by rw [← HSI.out, ← HKI.out.1]; exact hbusy
            rw [HSI.out]
            clear hR hP hC hS6 hbusy HAS HM HB5 hw1 hw2 hN hw4
            have q3 : w6.cell? ⟨sb, off + i * 5 + 3, none⟩ = some (.bool an) := HQ.out _ HS6.out.ms.bs.be 3 (by omega)
            cases an
            · go_wp2
              go_roundw
              case rel => exact ⟨i + 1, _, _, _, _, _, _, _, by first | (rw [hwi]; rfl) | rfl, hlt, HS6.out⟩
              case measure => first | exact meas hwi hi' | exact meas rfl hi'
            · have HW2 := hid (who_any (x : Int) w6 (by omega))
              go_wp2_with fail
              refine HW2.out.mono ?_
              rintro _ w7 ⟨rfl, b7⟩
              have HDN := hid (done_any (HS6.out.tc.mv (Mv.of_below b7 K6 (fun _ => 9)) id).pc answer HIN.out (i := whI x) (a := whA x) (seq := sI) HSQ.out)
              have HB7 := hid b7
              clear b7 HW2 q3
              go_wp2_with fail
              refine HDN.out.mono ?_
              rintro _ w8 ⟨v8, C8, rfl, hR, hP, hC⟩
              obtain ⟨rfl, K8, hS8⟩ := HS6.out.answered HX.out.1 HNM.out.1.2 rfl HBU.out HB7.out hR hP hC
              have HS8 := hid hS8
              clear hR hP hC hS8 HDN HB7 HS6 HBU
              go_wp2
              go_roundw
              case rel => exact ⟨i + 1, _, _, _, _, _, _, _, by first | (rw [hwi]; rfl) | rfl, hlt, HS8.out⟩
              case measure => first | exact meas hwi hi' | exact meas rfl hi'
        · cases nw
          · have q2 : wq.cell? ⟨sb, off + i * 5 + 2, none⟩ = some (.bool false) := HQ.out _ HSq.out.ms.bs.be 2 (by omega)
            have q4 : wq.cell? ⟨sb, off + i * 5 + 4, none⟩ = some (.bool true) := HQ.out _ HSq.out.ms.bs.be 4 (by omega)
            obtain ⟨w1, hw1⟩ : ∃ w1, wq.setCell ⟨Nb, x, none⟩ (.int .i64 kJ) = w1 := ⟨_, rfl⟩
            obtain ⟨w2, hw2⟩ : ∃ w2, w1.alloc (.cells #[.int .i64 kI] 3) = w2 := ⟨_, rfl⟩
            obtain ⟨N, hN⟩ : ∃ N, w1.heap.size = N := ⟨_, rfl⟩
            have hps := HSq.out.push HX.out.2 HV.out.1 HK.out.1 HK.out.2.1 HK.out.2.2 (by have := HL.out; omega) (w1 := w1) (w2 := w2) (N := N) (by rw [HKI.out.2]; exact hw1) (by rw [HKI.out.1]; exact hw2) hN
            obtain ⟨c1, v', w3, K4, ⟨o', c', rfl⟩, r1, r2, r3, r4, r5⟩ := hps
            obtain ⟨w4, hw4⟩ : ∃ w4, w3.setCell ⟨Wb, x, none⟩ (.slice o' (0 + 1) c') = w4 := ⟨_, rfl⟩
            have HM := hid (And.intro r4 r5)
            rw [hw4] at HM
            have R1 := hid r1
            have HW := hid (who_any (x : Int) w4 (by omega))
            have fq := HSq.out.ms.nf x
            have hbs := fun w => bls57 w kI
            obtain ⟨HD, hHD⟩ : ∃ HD : Prop, HD := ⟨True, trivial⟩
            have HHD := hid hHD
            obtain ⟨sI, hsI⟩ : ∃ sI : Int, kI = sI := ⟨_, rfl⟩
            have HSQ : Hid (-9223372036854775808 ≤ sI ∧ sI ≤ 9223372036854775807) := by show _ ∧ _; have := HKB.out; omega
            have HSI := hid hsI
            clear hHD r1 r4 r5 hsI
            go_upto_region 25 with fail
            go_wp2_with (at_builtin; refine decoy (D := HD) ?_ ?_)
            · exact HHD.out
            refine (show Hid _ from ?_)
            refine wpList_app rfl _ _ 57 rfl _ _ _ _ rfl rfl (R1.out _) ?_
            clear R1 hbs HHD
            as_aux_lemma =>
            go_wp2_with fail
            refine HW.out.mono ?_
            rintro _ w5 ⟨rfl, b5⟩
            have HAS := hid (ask_any (HM.out.2.mv (Mv.of_below b5 K4 (fun _ => 9)) id).pc (whA x) (whI x) kI kI)
            have HB5 := hid b5
            clear b5 HW c1 r2 r3 n1 v1 q2 q4
            go_wp2_with fail
            refine HAS.out.mono ?_
            rintro _ w6 ⟨vv, ss, C', rfl, hR, hP, hC⟩
            obtain ⟨rfl, ⟨K6, hS6⟩, hbusy⟩ := HSq.out.newly HX.out.1 HNM.out.1.2 HNM.out.2.1 HK.out.1 HK.out.2.1 HK.out.2.2 HRO.out (by have := HL.out; omega) HM.out.1 HM.out.2 HB5.out (by rw [HWI2.out, HKI.out.1]; exact hR) hP hC
            have HS6 := hid hS6
            have HBU : Hid (∃ c ∈ C', c.is (whA x) (whI x) ∧ busyE (enAt c.ents sI) = true) := by rw [← HSI.out, ← HKI.out.1]; exact hbusy
            rw [HSI.out]
            clear hR hP hC hS6 hbusy HAS HM HB5 hw1 hw2 hN hw4
            have q3 : w6.cell? ⟨sb, off + i * 5 + 3, none⟩ = some (.bool an) := HQ.out _ HS6.out.ms.bs.be 3 (by omega)
            cases an
            · go_wp2
              go_roundw
              case rel => exact ⟨i + 1, _, _, _, _, _, _, _, by first | (rw [hwi]; rfl) | rfl, hlt, HS6.out⟩
              case measure => first | exact meas hwi hi' | exact meas rfl hi'
            · have HW2 := hid (who_any (x : Int) w6 (by omega))
              go_wp2_with fail
              refine HW2.out.mono ?_
              rintro _ w7 ⟨rfl, b7⟩
              have HDN := hid (done_any (HS6.out.tc.mv (Mv.of_below b7 K6 (fun _ => 9)) id).pc answer HIN.out (i := whI x) (a := whA x) (seq := sI) HSQ.out)
              have HB7 := hid b7
              clear b7 HW2 q3
              go_wp2_with fail
              refine HDN.out.mono ?_
              rintro _ w8 ⟨v8, C8, rfl, hR, hP, hC⟩
              obtain ⟨rfl, K8, hS8⟩ := HS6.out.answered HX.out.1 HNM.out.1.2 rfl HBU.out HB7.out hR hP hC
              have HS8 := hid hS8
              clear hR hP hC hS8 HDN HB7 HS6 HBU
              go_wp2
              go_roundw
              case rel => exact ⟨i + 1, _, _, _, _, _, _, _, by first | (rw [hwi]; rfl) | rfl, hlt, HS8.out⟩
              case measure => first | exact meas hwi hi' | exact meas rfl hi'
          · have q2 : wq.cell? ⟨sb, off + i * 5 + 2, none⟩ = some (.bool true) := HQ.out _ HSq.out.ms.bs.be 2 (by omega)
            have q4 : wq.cell? ⟨sb, off + i * 5 + 4, none⟩ = some (.bool true) := HQ.out _ HSq.out.ms.bs.be 4 (by omega)
            obtain ⟨w1, hw1⟩ : ∃ w1, wq.setCell ⟨Nb, x, none⟩ (.int .i64 kJ) = w1 := ⟨_, rfl⟩
            obtain ⟨w2, hw2⟩ : ∃ w2, w1.alloc (.cells #[.int .i64 kI] 3) = w2 := ⟨_, rfl⟩
            obtain ⟨N, hN⟩ : ∃ N, w1.heap.size = N := ⟨_, rfl⟩
            have hps := HSq.out.push HX.out.2 HV.out.1 HK.out.1 HK.out.2.1 HK.out.2.2 (by have := HL.out; omega) (w1 := w1) (w2 := w2) (N := N) (by rw [HKI.out.2]; exact hw1) (by rw [HKI.out.1]; exact hw2) hN
            obtain ⟨c1, v', w3, K4, ⟨o', c', rfl⟩, r1, r2, r3, r4, r5⟩ := hps
            obtain ⟨w4, hw4⟩ : ∃ w4, w3.setCell ⟨Wb, x, none⟩ (.slice o' (0 + 1) c') = w4 := ⟨_, rfl⟩
            have HM := hid (And.intro r4 r5)
            rw [hw4] at HM
            have R1 := hid r1
            have HW := hid (who_any (x : Int) w4 (by omega))
            have fq := HSq.out.ms.nf x
            have hbs := fun w => bls57 w kI
            obtain ⟨HD, hHD⟩ : ∃ HD : Prop, HD := ⟨True, trivial⟩
            have HHD := hid hHD
            obtain ⟨sI, hsI⟩ : ∃ sI : Int, kI = sI := ⟨_, rfl⟩
            have HSQ : Hid (-9223372036854775808 ≤ sI ∧ sI ≤ 9223372036854775807) := by show _ ∧ _; have := HKB.out; omega
            have HSI := hid hsI
            clear hHD r1 r4 r5 hsI
            go_upto_region 25 with fail
            go_wp2_with (at_builtin; refine decoy (D := HD) ?_ ?_)
            · exact HHD.out
            refine (show Hid _ from ?_)
            refine wpList_app rfl _ _ 57 rfl _ _ _ _ rfl rfl (R1.out _) ?_
            clear R1 hbs HHD
            as_aux_lemma =>
            go_wp2_with fail
            refine HW.out.mono ?_
            rintro _ w5 ⟨rfl, b5⟩
            have HAS := hid (ask_any (HM.out.2.mv (Mv.of_below b5 K4 (fun _ => 9)) id).pc (whA x) (whI x) kI kI)
            have HB5 := hid b5
            clear b5 HW c1 r2 r3 n1 v1 q2 q4
            go_wp2_with fail
            refine HAS.out.mono ?_
            rintro _ w6 ⟨vv, ss, C', rfl, hR, hP, hC⟩
            obtain ⟨rfl, ⟨K6, hS6⟩, hbusy⟩ := HSq.out.newly HX.out.1 HNM.out.1.2 HNM.out.2.1 HK.out.1 HK.out.2.1 HK.out.2.2 HRO.out (by have := HL.out; omega) HM.out.1 HM.out.2 HB5.out (by rw [HWI2.out, HKI.out.1]; exact hR) hP hC
            have HS6 := hid hS6
            have HBU : Hid (∃ c ∈ C', c.is (whA x) (whI x) ∧ busyE (enAt c.ents sI) = true) := by rw [← HSI.out, ← HKI.out.1]; exact hbusy
            rw [HSI.out]
            clear hR hP hC hS6 hbusy HAS HM HB5 hw1 hw2 hN hw4
            have q3 : w6.cell? ⟨sb, off + i * 5 + 3, none⟩ = some (.bool an) := HQ.out _ HS6.out.ms.bs.be 3 (by omega)
            cases an
            · go_wp2
              go_roundw
              case rel => exact ⟨i + 1, _, _, _, _, _, _, _, by first | (rw [hwi]; rfl) | rfl, hlt, HS6.out⟩
              case measure => first | exact meas hwi hi' | exact meas rfl hi'
            · have HW2 := hid (who_any (x : Int) w6 (by omega))
              go_wp2_with fail
              refine HW2.out.mono ?_
              rintro _ w7 ⟨rfl, b7⟩
              have HDN := hid (done_any (HS6.out.tc.mv (Mv.of_below b7 K6 (fun _ => 9)) id).pc answer HIN.out (i := whI x) (a := whA x) (seq := sI) HSQ.out)
              have HB7 := hid b7
              clear b7 HW2 q3
              go_wp2_with fail
              refine HDN.out.mono ?_
              rintro _ w8 ⟨v8, C8, rfl, hR, hP, hC⟩
              obtain ⟨rfl, K8, hS8⟩ := HS6.out.answered HX.out.1 HNM.out.1.2 rfl HBU.out HB7.out hR hP hC
              have HS8 := hid hS8
              clear hR hP hC hS8 HDN HB7 HS6 HBU
              go_wp2
              go_roundw
              case rel => exact ⟨i + 1, _, _, _, _, _, _, _, by first | (rw [hwi]; rfl) | rfl, hlt, HS8.out⟩
              case measure => first | exact meas hwi hi' | exact meas rfl hi'
      · obtain ⟨k, hk⟩ : ∃ k, nx x = k := ⟨_, rfl⟩
        obtain ⟨wq, hwq⟩ : ∃ wq, wq = wo := ⟨_, rfl⟩
        subst hwq
        have HSq := HS
        have HK : Hid (nx x = k ∧ ln x = l ∧ 1 ≤ k) := ⟨hk, hl, by omega⟩
        obtain ⟨kI, hkI⟩ : ∃ kI : Int, (k : Int) = kI := ⟨_, rfl⟩
        obtain ⟨kJ, hkJ⟩ : ∃ kJ : Int, ((k + 1 : Nat) : Int) = kJ := ⟨_, rfl⟩
        have HKI := hid (And.intro hkI hkJ)
        have HKB : Hid (1 ≤ k ∧ k ≤ 2000000 ∧ l < k) := by
          show _ ∧ _ ∧ _
          have h1 := HSq.out.bd x
          have h2 := HSq.out.small HK.out.1 HK.out.2.1 HK.out.2.2
          have h3 := HK.out
          have h4 := HL.out
          omega
        have hk1 : wrap64 (kI + 1) = kJ := by have h1 := HKB.out; unfold wrap64; omega
        have HIN : Hid (InW (whA x) (whI x)) := by
          obtain ⟨a1, a2⟩ := wh_is x HX.out.2
          show InW _ _
          rw [a1, a2]
          constructor <;> omega
        have n1 : wq.cell? ⟨Nb, x, none⟩ = some (.int .i64 kI) := by have h9 := HSq.out.ms.nc HX.out.2; rw [HK.out.1, hkI] at h9; exact h9
        have v1 : wq.cell? ⟨Wb, x, none⟩ = some (.slice oa l vc) := by unfold World.cell?; rw [HSq.out.ms.wb.at_]; exact HV.out.1
        have hkz : (kI == 0) = false := by have := HKB.out; simp; omega
        clear HS hk hz
        by_cases hlz : l = 0
        · subst hlz
          clear hl
          have HRO : Hid (0 < m) := by show 0 < m; have := HNM.out; omega
          have HWI2 : Hid ((k : Int) - ((0 : Nat) : Int) = kI) := by show _ = _; have := HKI.out; omega
          have hs0 : wrap64 (kI - kI) = 0 := by rw [Int.sub_self]; unfold wrap64; omega
          have dm : decide (mI ≤ 0) = false := by have := HLET.out; have := HNM.out; simp; omega
          cases en
          · cases nw
            · have q2 : wq.cell? ⟨sb, off + i * 5 + 2, none⟩ = some (.bool false) := HQ.out _ HSq.out.ms.bs.be 2 (by omega)
              have q4 : wq.cell? ⟨sb, off + i * 5 + 4, none⟩ = some (.bool false) := HQ.out _ HSq.out.ms.bs.be 4 (by omega)
              obtain ⟨w1, hw1⟩ : ∃ w1, wq.setCell ⟨Nb, x, none⟩ (.int .i64 kJ) = w1 := ⟨_, rfl⟩
              obtain ⟨w2, hw2⟩ : ∃ w2, w1.alloc (.cells #[.int .i64 kI] 3) = w2 := ⟨_, rfl⟩
              obtain ⟨N, hN⟩ : ∃ N, w1.heap.size = N := ⟨_, rfl⟩
              have hps := HSq.out.push HX.out.2 HV.out.1 HK.out.1 HK.out.2.1 HK.out.2.2 (by have := HL.out; omega) (w1 := w1) (w2 := w2) (N := N) (by rw [HKI.out.2]; exact hw1) (by rw [HKI.out.1]; exact hw2) hN
              obtain ⟨c1, v', w3, K4, ⟨o', c', rfl⟩, r1, r2, r3, r4, r5⟩ := hps
              obtain ⟨w4, hw4⟩ : ∃ w4, w3.setCell ⟨Wb, x, none⟩ (.slice o' (0 + 1) c') = w4 := ⟨_, rfl⟩
              have HM := hid (And.intro r4 r5)
              rw [hw4] at HM
              have R1 := hid r1
              have HW := hid (who_any (x : Int) w4 (by omega))
              have fq := HSq.out.ms.nf x
              have hbs := fun w => bls57 w kI
              obtain ⟨HD, hHD⟩ : ∃ HD : Prop, HD := ⟨True, trivial⟩
              have HHD := hid hHD
              obtain ⟨sI, hsI⟩ : ∃ sI : Int, kI = sI := ⟨_, rfl⟩
              have HSQ : Hid (-9223372036854775808 ≤ sI ∧ sI ≤ 9223372036854775807) := by show _ ∧ _; have := HKB.out; omega
              have HSI := hid hsI
              clear hHD r1 r4 r5 hsI
              go_upto_region 25 with fail
              go_wp2_with (at_builtin; refine decoy (D := HD) ?_ ?_)
              · exact HHD.out
              refine (show Hid _ from ?_)
              refine wpList_app rfl _ _ 57 rfl _ _ _ _ rfl rfl (R1.out _) ?_
              clear R1 hbs HHD
              as_aux_lemma =>
              go_wp2_with fail
              refine HW.out.mono ?_
              rintro _ w5 ⟨rfl, b5⟩
              have HAS := hid (ask_any (HM.out.2.mv (Mv.of_below b5 K4 (fun _ => 9)) id).pc (whA x) (whI x) kI kI)
              have HB5 := hid b5
              clear b5 HW c1 r2 r3 n1 v1 q2 q4
              go_wp2_with fail
              refine HAS.out.mono ?_
              rintro _ w6 ⟨vv, ss, C', rfl, hR, hP, hC⟩
              obtain ⟨rfl, ⟨K6, hS6⟩, hbusy⟩ := HSq.out.newly HX.out.1 HNM.out.1.2 HNM.out.2.1 HK.out.1 HK.out.2.1 HK.out.2.2 HRO.out (by have := HL.out; omega) HM.out.1 HM.out.2 HB5.out (by rw [HWI2.out, HKI.out.1]; exact hR) hP hC
              have HS6 := hid hS6
              have HBU : Hid (∃ c ∈ C', c.is (whA x) (whI x) ∧ busyE (enAt c.ents sI) = true) := by rw [← HSI.out, ← HKI.out.1]; exact hbusy
              rw [HSI.out]
              clear hR hP hC hS6 hbusy HAS HM HB5 hw1 hw2 hN hw4
              have q3 : w6.cell? ⟨sb, off + i * 5 + 3, none⟩ = some (.bool an) := HQ.out _ HS6.out.ms.bs.be 3 (by omega)
              cases an
              · go_wp2
                go_roundw
                case rel => exact ⟨i + 1, _, _, _, _, _, _, _, by first | (rw [hwi]; rfl) | rfl, hlt, HS6.out⟩
                case measure => first | exact meas hwi hi' | exact meas rfl hi'
              · have HW2 := hid (who_any (x : Int) w6 (by omega))
                go_wp2_with fail
                refine HW2.out.mono ?_
                rintro _ w7 ⟨rfl, b7⟩
                have HDN := hid (done_any (HS6.out.tc.mv (Mv.of_below b7 K6 (fun _ => 9)) id).pc answer HIN.out (i := whI x) (a := whA x) (seq := sI) HSQ.out)
                have HB7 := hid b7
                clear b7 HW2 q3
                go_wp2_with fail
                refine HDN.out.mono ?_
                rintro _ w8 ⟨v8, C8, rfl, hR, hP, hC⟩
                obtain ⟨rfl, K8, hS8⟩ := HS6.out.answered HX.out.1 HNM.out.1.2 rfl HBU.out HB7.out hR hP hC
                have HS8 := hid hS8
                clear hR hP hC hS8 HDN HB7 HS6 HBU
                go_wp2
                go_roundw
                case rel => exact ⟨i + 1, _, _, _, _, _, _, _, by first | (rw [hwi]; rfl) | rfl, hlt, HS8.out⟩
                case measure => first | exact meas hwi hi' | exact meas rfl hi'
            · have q2 : wq.cell? ⟨sb, off + i * 5 + 2, none⟩ = some (.bool true) := HQ.out _ HSq.out.ms.bs.be 2 (by omega)
              have q4 : wq.cell? ⟨sb, off + i * 5 + 4, none⟩ = some (.bool false) := HQ.out _ HSq.out.ms.bs.be 4 (by omega)
              obtain ⟨w1, hw1⟩ : ∃ w1, wq.setCell ⟨Nb, x, none⟩ (.int .i64 kJ) = w1 := ⟨_, rfl⟩
              obtain ⟨w2, hw2⟩ : ∃ w2, w1.alloc (.cells #[.int .i64 kI] 3) = w2 := ⟨_, rfl⟩
              obtain ⟨N, hN⟩ : ∃ N, w1.heap.size = N := ⟨_, rfl⟩
              have hps := HSq.out.push HX.out.2 HV.out.1 HK.out.1 HK.out.2.1 HK.out.2.2 (by have := HL.out; omega) (w1 := w1) (w2 := w2) (N := N) (by rw [HKI.out.2]; exact hw1) (by rw [HKI.out.1]; exact hw2) hN
              obtain ⟨c1, v', w3, K4, ⟨o', c', rfl⟩, r1, r2, r3, r4, r5⟩ := hps
              obtain ⟨w4, hw4⟩ : ∃ w4, w3.setCell ⟨Wb, x, none⟩ (.slice o' (0 + 1) c') = w4 := ⟨_, rfl⟩
              have HM := hid (And.intro r4 r5)
              rw [hw4] at HM
              have R1 := hid r1
              have HW := hid (who_any (x : Int) w4 (by omega))
              have fq := HSq.out.ms.nf x
              have hbs := fun w => bls57 w kI
              obtain ⟨HD, hHD⟩ : ∃ HD : Prop, HD := ⟨True, trivial⟩
              have HHD := hid hHD
              obtain ⟨sI, hsI⟩ : ∃ sI : Int, kI = sI := ⟨_, rfl⟩
              have HSQ : Hid (-9223372036854775808 ≤ sI ∧ sI ≤ 9223372036854775807) := by show _ ∧ _; have := HKB.out; omega
              have HSI := hid hsI
              clear hHD r1 r4 r5 hsI
              go_upto_region 25 with fail
              go_wp2_with (at_builtin; refine decoy (D := HD) ?_ ?_)
              · exact HHD.out
              refine (show Hid _ from ?_)
              refine wpList_app rfl _ _ 57 rfl _ _ _ _ rfl rfl (R1.out _) ?_
              clear R1 hbs HHD
              as_aux_lemma =>
              go_wp2_with fail
              refine HW.out.mono ?_
              rintro _ w5 ⟨rfl, b5⟩
              have HAS := hid (ask_any (HM.out.2.mv (Mv.of_below b5 K4 (fun _ => 9)) id).pc (whA x) (whI x) kI kI)
              have HB5 := hid b5
              clear b5 HW c1 r2 r3 n1 v1 q2 q4
              go_wp2_with fail
              refine HAS.out.mono ?_
              rintro _ w6 ⟨vv, ss, C', rfl, hR, hP, hC⟩
              obtain ⟨rfl, ⟨K6, hS6⟩, hbusy⟩ := HSq.out.newly HX.out.1 HNM.out.1.2 HNM.out.2.1 HK.out.1 HK.out.2.1 HK.out.2.2 HRO.out (by have := HL.out; omega) HM.out.1 HM.out.2 HB5.out (by rw [HWI2.out, HKI.out.1]; exact hR) hP hC
              have HS6 := hid hS6
              have HBU : Hid (∃ c ∈ C', c.is (whA x) (whI x) ∧ busyE (enAt c.ents sI) = true) := by rw [← HSI.out, ← HKI.out.1]; exact hbusy
              rw [HSI.out]
              clear hR hP hC hS6 hbusy HAS HM HB5 hw1 hw2 hN hw4
              have q3 : w6.cell? ⟨sb, off + i * 5 + 3, none⟩ = some (.bool an) := HQ.out _ HS6.out.ms.bs.be 3 (by omega)
              cases an
              · go_wp2
                go_roundw
                case rel => exact ⟨i + 1, _, _, _, _, _, _, _, by first | (rw [hwi]; rfl) | rfl, hlt, HS6.out⟩
                case measure => first | exact meas hwi hi' | exact meas rfl hi'
              · have HW2 := hid (who_any (x : Int) w6 (by omega))
                go_wp2_with fail
                refine HW2.out.mono ?_
                rintro _ w7 ⟨rfl, b7⟩
                have HDN := hid (done_any (HS6.out.tc.mv (Mv.of_below b7 K6 (fun _ => 9)) id).pc answer HIN.out (i := whI x) (a := whA x) (seq := sI) HSQ.out)
                have HB7 := hid b7
                clear b7 HW2 q3
                go_wp2_with fail
                refine HDN.out.mono ?_
                rintro _ w8 ⟨v8, C8, rfl, hR, hP, hC⟩
                obtain ⟨rfl, K8, hS8⟩ := HS6.out.answered HX.out.1 HNM.out.1.2 rfl HBU.out HB7.out hR hP hC
                have HS8 := hid hS8
                clear hR hP hC hS8 HDN HB7 HS6 HBU
                go_wp2
                go_roundw
                case rel => exact ⟨i + 1, _, _, _, _, _, _, _, by first | (rw [hwi]; rfl) | rfl, hlt, HS8.out⟩
                case measure => first | exact meas hwi hi' | exact meas rfl hi'
          · cases nw
            · have q2 : wq.cell? ⟨sb, off + i * 5 + 2, none⟩ = some (.bool false) := HQ.out _ HSq.out.ms.bs.be 2 (by omega)
              have q4 : wq.cell? ⟨sb, off + i * 5 + 4, none⟩ = some (.bool true) := HQ.out _ HSq.out.ms.bs.be 4 (by omega)
              obtain ⟨w1, hw1⟩ : ∃ w1, wq.setCell ⟨Nb, x, none⟩ (.int .i64 kJ) = w1 := ⟨_, rfl⟩
              obtain ⟨w2, hw2⟩ : ∃ w2, w1.alloc (.cells #[.int .i64 kI] 3) = w2 := ⟨_, rfl⟩
              obtain ⟨N, hN⟩ : ∃ N, w1.heap.size = N := ⟨_, rfl⟩
              have hps := HSq.out.push HX.out.2 HV.out.1 HK.out.1 HK.out.2.1 HK.out.2.2 (by have := HL.out; omega) (w1 := w1) (w2 := w2) (N := N) (by rw [HKI.out.2]; exact hw1) (by rw [HKI.out.1]; exact hw2) hN
              obtain ⟨c1, v', w3, K4, ⟨o', c', rfl⟩, r1, r2, r3, r4, r5⟩ := hps
              obtain ⟨w4, hw4⟩ : ∃ w4, w3.setCell ⟨Wb, x, none⟩ (.slice o' (0 + 1) c') = w4 := ⟨_, rfl⟩
              have HM := hid (And.intro r4 r5)
              rw [hw4] at HM
              have R1 := hid r1
              have HW := hid (who_any (x : Int) w4 (by omega))
              have fq := HSq.out.ms.nf x
              have hbs := fun w => bls57 w kI
              obtain ⟨HD, hHD⟩ : ∃ HD : Prop, HD := ⟨True, trivial⟩
              have HHD := hid hHD
              obtain ⟨sI, hsI⟩ : ∃ sI : Int, kI = sI := ⟨_, rfl⟩
              have HSQ : Hid (-9223372036854775808 ≤ sI ∧ sI ≤ 9223372036854775807) := by show _ ∧ _; have := HKB.out; omega
              have HSI := hid hsI
              clear hHD r1 r4 r5 hsI
              go_upto_region 25 with fail
              go_wp2_with (at_builtin; refine decoy (D := HD) ?_ ?_)
              · exact HHD.out
              refine (show Hid _ from ?_)
              refine wpList_app rfl _ _ 57 rfl _ _ _ _ rfl rfl (R1.out _) ?_
              clear R1 hbs HHD
              as_aux_lemma =>
              go_wp2_with fail
              refine HW.out.mono ?_
              rintro _ w5 ⟨rfl, b5⟩
              have HAS := hid (ask_any (HM.out.2.mv (Mv.of_below b5 K4 (fun _ => 9)) id).pc (whA x) (whI x) kI kI)
              have HB5 := hid b5
              clear b5 HW c1 r2 r3 n1 v1 q2 q4
              go_wp2_with fail
              refine HAS.out.mono ?_
              rintro _ w6 ⟨vv, ss, C', rfl, hR, hP, hC⟩
              obtain ⟨rfl, ⟨K6, hS6⟩, hbusy⟩ := HSq.out.newly HX.out.1 HNM.out.1.2 HNM.out.2.1 HK.out.1 HK.out.2.1 HK.out.2.2 HRO.out (by have := HL.out; omega) HM.out.1 HM.out.2 HB5.out (by rw [HWI2.out, HKI.out.1]; exact hR) hP hC
              have HS6 := hid hS6
              have HBU : Hid (∃ c ∈ C', c.is (whA x) (whI x) ∧ busyE (enAt c.ents sI) = true) := by rw [← HSI.out, ← HKI.out.1]; exact hbusy
              rw [HSI.out]
              clear hR hP hC hS6 hbusy HAS HM HB5 hw1 hw2 hN hw4
              have q3 : w6.cell? ⟨sb, off + i * 5 + 3, none⟩ = some (.bool an) := HQ.out _ HS6.out.ms.bs.be 3 (by omega)
              cases an
              · go_wp2
                go_roundw
                case rel => exact ⟨i + 1, _, _, _, _, _, _, _, by first | (rw [hwi]; rfl) | rfl, hlt, HS6.out⟩
                case measure => first | exact meas hwi hi' | exact meas rfl hi'
              · have HW2 := hid (who_any (x : Int) w6 (by omega))
                go_wp2_with fail
                refine HW2.out.mono ?_
                rintro _ w7 ⟨rfl, b7⟩
                have HDN := hid (done_any (HS6.out.tc.mv (Mv.of_below b7 K6 (fun _ => 9)) id).pc answer HIN.out (i := whI x) (a := whA x) (seq := sI) HSQ.out)
                have HB7 := hid b7
                clear b7 HW2 q3
                go_wp2_with fail
                refine HDN.out.mono ?_
                rintro _ w8 ⟨v8, C8, rfl, hR, hP, hC⟩
                obtain ⟨rfl, K8, hS8⟩ := HS6.out.answered HX.out.1 HNM.out.1.2 rfl HBU.out HB7.out hR hP hC
                have HS8 := hid hS8
                clear hR hP hC hS8 HDN HB7 HS6 HBU
                go_wp2
                go_roundw
                case rel => exact ⟨i + 1, _, _, _, _, _, _, _, by first | (rw [hwi]; rfl) | rfl, hlt, HS8.out⟩
                case measure => first | exact meas hwi hi' | exact meas rfl hi'
            · have q2 : wq.cell? ⟨sb, off + i * 5 + 2, none⟩ = some (.bool true) := HQ.out _ HSq.out.ms.bs.be 2 (by omega)
              have q4 : wq.cell? ⟨sb, off + i * 5 + 4, none⟩ = some (.bool true) := HQ.out _ HSq.out.ms.bs.be 4 (by omega)
              obtain ⟨w1, hw1⟩ : ∃ w1, wq.setCell ⟨Nb, x, none⟩ (.int .i64 kJ) = w1 := ⟨_, rfl⟩
              obtain ⟨w2, hw2⟩ : ∃ w2, w1.alloc (.cells #[.int .i64 kI] 3) = w2 := ⟨_, rfl⟩
              obtain ⟨N, hN⟩ : ∃ N, w1.heap.size = N := ⟨_, rfl⟩
              have hps := HSq.out.push HX.out.2 HV.out.1 HK.out.1 HK.out.2.1 HK.out.2.2 (by have := HL.out; omega) (w1 := w1) (w2 := w2) (N := N) (by rw [HKI.out.2]; exact hw1) (by rw [HKI.out.1]; exact hw2) hN
              obtain ⟨c1, v', w3, K4, ⟨o', c', rfl⟩, r1, r2, r3, r4, r5⟩ := hps
              obtain ⟨w4, hw4⟩ : ∃ w4, w3.setCell ⟨Wb, x, none⟩ (.slice o' (0 + 1) c') = w4 := ⟨_, rfl⟩
              have HM := hid (And.intro r4 r5)
              rw [hw4] at HM
              have R1 := hid r1
              have HW := hid (who_any (x : Int) w4 (by omega))
              have fq := HSq.out.ms.nf x
              have hbs := fun w => bls57 w kI
              obtain ⟨HD, hHD⟩ : ∃ HD : Prop, HD := ⟨True, trivial⟩
              have HHD := hid hHD
              obtain ⟨sI, hsI⟩ : ∃ sI : Int, kI = sI := ⟨_, rfl⟩
              have HSQ : Hid (-9223372036854775808 ≤ sI ∧ sI ≤ 9223372036854775807) := by show _ ∧ _; have := HKB.out; omega
              have HSI := hid hsI
              clear hHD r1 r4 r5 hsI
              go_upto_region 25 with fail
              go_wp2_with (at_builtin; refine decoy (D := HD) ?_ ?_)
              · exact HHD.out
              refine (show Hid _ from ?_)
              refine wpList_app rfl _ _ 57 rfl _ _ _ _ rfl rfl (R1.out _) ?_
              clear R1 hbs HHD
              as_aux_lemma =>
              go_wp2_with fail
              refine HW.out.mono ?_
              rintro _ w5 ⟨rfl, b5⟩
              have HAS := hid (ask_any (HM.out.2.mv (Mv.of_below b5 K4 (fun _ => 9)) id).pc (whA x) (whI x) kI kI)
              have HB5 := hid b5
              clear b5 HW c1 r2 r3 n1 v1 q2 q4
              go_wp2_with fail
              refine HAS.out.mono ?_
              rintro _ w6 ⟨vv, ss, C', rfl, hR, hP, hC⟩
              obtain ⟨rfl, ⟨K6, hS6⟩, hbusy⟩ := HSq.out.newly HX.out.1 HNM.out.1.2 HNM.out.2.1 HK.out.1 HK.out.2.1 HK.out.2.2 HRO.out (by have := HL.out; omega) HM.out.1 HM.out.2 HB5.out (by rw [HWI2.out, HKI.out.1]; exact hR) hP hC
              have HS6 := hid hS6
              have HBU : Hid (∃ c ∈ C', c.is (whA x) (whI x) ∧ busyE (enAt c.ents sI) = true) := by rw [← HSI.out, ← HKI.out.1]; exact hbusy
              rw [HSI.out]
              clear hR hP hC hS6 hbusy HAS HM HB5 hw1 hw2 hN hw4
              have q3 : w6.cell? ⟨sb, off + i * 5 + 3, none⟩ = some (.bool an) := HQ.out _ HS6.out.ms.bs.be 3 (by omega)
              cases an
              · go_wp2
                go_roundw
                case rel => exact ⟨i + 1, _, _, _, _, _, _, _, by first | (rw [hwi]; rfl) | rfl, hlt, HS6.out⟩
                case measure => first | exact meas hwi hi' | exact meas rfl hi'
              · have HW2 := hid (who_any (x : Int) w6 (by omega))
                go_wp2_with fail
                refine HW2.out.mono ?_
                rintro _ w7 ⟨rfl, b7⟩
                have HDN := hid (done_any (HS6.out.tc.mv (Mv.of_below b7 K6 (fun _ => 9)) id).pc answer HIN.out (i := whI x) (a := whA x) (seq := sI) HSQ.out)
                have HB7 := hid b7
                clear b7 HW2 q3
                go_wp2_with fail
                refine HDN.out.mono ?_
                rintro _ w8 ⟨v8, C8, rfl, hR, hP, hC⟩
                obtain ⟨rfl, K8, hS8⟩ := HS6.out.answered HX.out.1 HNM.out.1.2 rfl HBU.out HB7.out hR hP hC
                have HS8 := hid hS8
                clear hR hP hC hS8 HDN HB7 HS6 HBU
                go_wp2
                go_roundw
                case rel => exact ⟨i + 1, _, _, _, _, _, _, _, by first | (rw [hwi]; rfl) | rfl, hlt, HS8.out⟩
                case measure => first | exact meas hwi hi' | exact meas rfl hi'
        · have hlp : 0 < l := by omega
          have HCE : Hid (∀ g ofs, oa = some ⟨g, ofs, none⟩ → ∀ j, j < l → wq.cell? ⟨g, ofs + j, none⟩ = some (.int .i64 ((lo x + j : Nat) : Int))) := fun g ofs e j hj => by
            obtain ⟨g', ofs', vc', hvg, _, hcell⟩ := HV.out.2.at hlp
            rw [e] at hvg
            cases hvg
            exact hcell j hj
          clear hl
          obtain ⟨g, ofs, vc', hvg, hcap, hcell⟩ := HV.out.2.at hlp
          cases hvg
          obtain ⟨wI, hwI⟩ : ∃ wI : Int, (k : Int) - (l : Int) = wI := ⟨_, rfl⟩
          have HLO : Hid (lo x + l = k) := by show _ = _; have h1 := HSq.out.tie x; have h2 := HK.out; omega
          have HWI2 := hid hwI
          have g0 : wq.cell? ⟨g, ofs, none⟩ = some (.int .i64 wI) := by
            have h1 := HCE.out g ofs rfl 0 hlp
            have h2 := HLO.out
            rw [← hwI, show (k : Int) - (l : Int) = ((lo x + 0 : Nat) : Int) by omega]
            exact h1
          have hl0 : (0 : Int) < (l : Int) := by omega
          have hl1 : ((l : Int) == 0) = false := by simp; omega
          cases en
          · cases nw
            · have q2 : wq.cell? ⟨sb, off + i * 5 + 2, none⟩ = some (.bool false) := HQ.out _ HSq.out.ms.bs.be 2 (by omega)
              have q4 : wq.cell? ⟨sb, off + i * 5 + 4, none⟩ = some (.bool false) := HQ.out _ HSq.out.ms.bs.be 4 (by omega)
              as_aux_lemma =>
              have HP3 := hid (fun w => pick_any nn (l : Int) w HON.out.1 HON.out.2 (by omega) (by have := HKB.out; omega))
              obtain ⟨j, hjl, hj⟩ : ∃ j : Nat, j < l ∧ pickP nn (l : Int) = (j : Int) := by
                have := pickP_in nn (l : Int) (by omega)
                exact ⟨(pickP nn (l : Int)).toNat, by omega, by omega⟩
              rw [hj] at HP3
              obtain ⟨sI, hsI⟩ : ∃ sI : Int, ((lo x + j : Nat) : Int) = sI := ⟨_, rfl⟩
              have HSQ : Hid (-9223372036854775808 ≤ sI ∧ sI ≤ 9223372036854775807) := by show _ ∧ _; have h1 := HKB.out; have h2 := HLO.out; omega
              have HSR : Hid ((k : Int) - (l : Int) ≤ sI ∧ sI < (k : Int)) := by show _ ∧ _; have h2 := HLO.out; omega
              have hj' : (j : Int) < (l : Int) := by omega
              have gz : ∀ z, (wq.drewN z).cell? ⟨g, ofs + j, none⟩ = some (.int .i64 sI) := fun z => by rw [← hsI]; exact HCE.out g ofs rfl j hjl
              have vz : ∀ z, (wq.drewN z).cell? ⟨Wb, x, none⟩ = some (.slice (some ⟨g, ofs, none⟩) l vc) := fun z => v1
              have q1 : wq.cell? ⟨sb, off + i * 5 + 1, none⟩ = some (.int .i64 nn) := HQ.out _ HSq.out.ms.bs.be 1 (by omega)
              have qz : ∀ z, (wq.drewN z).cell? ⟨sb, off + i * 5 + 1, none⟩ = some (.int .i64 nn) := fun z => q1
              have GP : Hid (∀ z, Calls Try.prog 18 #[.int .i64 nn, .int .i64 (l : Int)] (wq.drewN z) fun e w'' => e = .returned (.int .i64 (j : Int)) ∧ ∃ z', w'' = wq.drewN z') := fun z => (HP3.out (wq.drewN z)).mono fun e w'' ⟨a1, a2⟩ => ⟨a1, z, a2⟩
              clear hsI hj q1
              go_wp2_with fail
              refine wp_region_class (fun z => wq.drewN z) (by kernel_rfl) (by kernel_rfl) ⟨1, rfl⟩ ?_
              repeat (go_big_quiet_step (first | (go_at_call 18; with_reducible exact GP.out _)))
              refine wpQuiet_nil ?_
              rintro wd ⟨z, hwd⟩
              have hwd' : wd = wq.drewN z := hwd
              have HSd : Hid (RS w wd K p mm Wb Nb n m C cs ns nx lo ln i) := by
                rw [hwd']
                exact HSq.out.mv (T := fun _ => False) ⟨rfl, rfl, rfl, Nat.le_refl _, fun _ _ => rfl, fun _ _ _ => rfl⟩ (fun _ _ q => q)
              have HW := hid (who_any (x : Int) wd (by omega))
              clear gz vz qz GP HP3 hwd hwd' HSq HCE g0 n1 v1 q2 q4
              go_wp2_with fail
              refine HW.out.mono ?_
              rintro _ w5 ⟨rfl, b5⟩
              have HAS := hid (ask_any (HSd.out.tc.mv (Mv.of_below b5 K (fun _ => 9)) id).pc (whA x) (whI x) sI wI)
              have HB5 := hid b5
              clear b5 HW
              go_wp2_with fail
              refine HAS.out.mono ?_
              rintro _ w6 ⟨vv, ss, C', rfl, hR, hP, hC⟩
              obtain ⟨hv23, ⟨K6, hS6⟩, hbusy⟩ := HSd.out.again HX.out.1 HNM.out.1.2 HK.out.1 HK.out.2.1 (by have := HL.out; omega) HSR.out.1 HSR.out.2 HB5.out (by rw [HWI2.out]; exact hR) hP hC
              have HS6 := hid hS6
              rcases hv23 with rfl | rfl
              · have HBU := hid (hbusy rfl)
                clear hR hP hC hS6 hbusy HAS HB5 HSd
                have q3 : w6.cell? ⟨sb, off + i * 5 + 3, none⟩ = some (.bool an) := HQ.out _ HS6.out.ms.bs.be 3 (by omega)
                cases an
                · go_wp2
                  go_roundw
                  case rel => exact ⟨i + 1, _, _, _, _, _, _, _, by first | (rw [hwi]; rfl) | rfl, hlt, HS6.out⟩
                  case measure => first | exact meas hwi hi' | exact meas rfl hi'
                · have HW2 := hid (who_any (x : Int) w6 (by omega))
                  go_wp2_with fail
                  refine HW2.out.mono ?_
                  rintro _ w7 ⟨rfl, b7⟩
                  have HDN := hid (done_any (HS6.out.tc.mv (Mv.of_below b7 K6 (fun _ => 9)) id).pc answer HIN.out (i := whI x) (a := whA x) (seq := sI) HSQ.out)
                  have HB7 := hid b7
                  clear b7 HW2 q3
                  go_wp2_with fail
                  refine HDN.out.mono ?_
                  rintro _ w8 ⟨v8, C8, rfl, hR, hP, hC⟩
                  obtain ⟨rfl, K8, hS8⟩ := HS6.out.answered HX.out.1 HNM.out.1.2 rfl HBU.out HB7.out hR hP hC
                  have HS8 := hid hS8
                  clear hR hP hC hS8 HDN HB7 HS6 HBU
                  go_wp2
                  go_roundw
                  case rel => exact ⟨i + 1, _, _, _, _, _, _, _, by first | (rw [hwi]; rfl) | rfl, hlt, HS8.out⟩
                  case measure => first | exact meas hwi hi' | exact meas rfl hi'
              · clear hR hP hC hS6 hbusy HAS HB5 HSd
                have q3 : w6.cell? ⟨sb, off + i * 5 + 3, none⟩ = some (.bool an) := HQ.out _ HS6.out.ms.bs.be 3 (by omega)
                cases an
                · go_wp2
                  go_roundw
                  case rel => exact ⟨i + 1, _, _, _, _, _, _, _, by first | (rw [hwi]; rfl) | rfl, hlt, HS6.out⟩
                  case measure => first | exact meas hwi hi' | exact meas rfl hi'
                · go_wp2
                  go_roundw
                  case rel => exact ⟨i + 1, _, _, _, _, _, _, _, by first | (rw [hwi]; rfl) | rfl, hlt, HS6.out⟩
                  case measure => first | exact meas hwi hi' | exact meas rfl hi'
            · have q2 : wq.cell? ⟨sb, off + i * 5 + 2, none⟩ = some (.bool true) := HQ.out _ HSq.out.ms.bs.be 2 (by omega)
              have q4 : wq.cell? ⟨sb, off + i * 5 + 4, none⟩ = some (.bool false) := HQ.out _ HSq.out.ms.bs.be 4 (by omega)
              by_cases hfull : m ≤ l
              · as_aux_lemma =>
                have hw9 : wrap64 (kI - wI) = (l : Int) := by have h1 := HKI.out; have h2 := HKB.out; rw [← hwI, ← h1.1]; unfold wrap64; omega
                have dm : decide (mI ≤ (l : Int)) = true := by have := HLET.out; simp; omega
                have HE := hid HSq.out.up
                clear HSq HCE
                go_wp2
                go_roundw
                case rel => exact ⟨i + 1, _, _, _, _, _, _, _, by first | (rw [hwi]; rfl) | rfl, hlt, HE.out⟩
                case measure => first | exact meas hwi hi' | exact meas rfl hi'
              · have HRO : Hid (l < m) := by show l < m; omega
                have hs0 : wrap64 (kI - wI) = (l : Int) := by have h1 := HKI.out; have h2 := HKB.out; rw [← hwI, ← h1.1]; unfold wrap64; omega
                have dm : decide (mI ≤ (l : Int)) = false := by have := HLET.out; simp; omega
                clear hfull HCE
                obtain ⟨w1, hw1⟩ : ∃ w1, wq.setCell ⟨Nb, x, none⟩ (.int .i64 kJ) = w1 := ⟨_, rfl⟩
                obtain ⟨w2, hw2⟩ : ∃ w2, w1.alloc (.cells #[.int .i64 kI] 3) = w2 := ⟨_, rfl⟩
                obtain ⟨N, hN⟩ : ∃ N, w1.heap.size = N := ⟨_, rfl⟩
                have hps := HSq.out.push HX.out.2 HV.out.1 HK.out.1 HK.out.2.1 HK.out.2.2 (by have := HL.out; omega) (w1 := w1) (w2 := w2) (N := N) (by rw [HKI.out.2]; exact hw1) (by rw [HKI.out.1]; exact hw2) hN
                obtain ⟨c1, v', w3, K4, ⟨o', c', rfl⟩, r1, r2, r3, r4, r5⟩ := hps
                obtain ⟨w4, hw4⟩ : ∃ w4, w3.setCell ⟨Wb, x, none⟩ (.slice o' (l + 1) c') = w4 := ⟨_, rfl⟩
                have HM := hid (And.intro r4 r5)
                rw [hw4] at HM
                have R1 := hid r1
                have HW := hid (who_any (x : Int) w4 (by omega))
                have fq := HSq.out.ms.nf x
                have hbs := fun w => bls57 w kI
                obtain ⟨HD, hHD⟩ : ∃ HD : Prop, HD := ⟨True, trivial⟩
                have HHD := hid hHD
                obtain ⟨sI, hsI⟩ : ∃ sI : Int, kI = sI := ⟨_, rfl⟩
                have HSQ : Hid (-9223372036854775808 ≤ sI ∧ sI ≤ 9223372036854775807) := by show _ ∧ _; have := HKB.out; omega
                have HSI := hid hsI
                clear hHD r1 r4 r5 hsI
                go_upto_region 25 with fail
                go_wp2_with (at_builtin; refine decoy (D := HD) ?_ ?_)
                · exact HHD.out
                refine (show Hid _ from ?_)
                refine wpList_app rfl _ _ 57 rfl _ _ _ _ rfl rfl (R1.out _) ?_
                clear R1 hbs HHD
                as_aux_lemma =>
                go_wp2_with fail
                refine HW.out.mono ?_
                rintro _ w5 ⟨rfl, b5⟩
                have HAS := hid (ask_any (HM.out.2.mv (Mv.of_below b5 K4 (fun _ => 9)) id).pc (whA x) (whI x) kI wI)
                have HB5 := hid b5
                clear b5 HW c1 r2 r3 n1 v1 q2 q4
                go_wp2_with fail
                refine HAS.out.mono ?_
                rintro _ w6 ⟨vv, ss, C', rfl, hR, hP, hC⟩
                obtain ⟨rfl, ⟨K6, hS6⟩, hbusy⟩ := HSq.out.newly HX.out.1 HNM.out.1.2 HNM.out.2.1 HK.out.1 HK.out.2.1 HK.out.2.2 HRO.out (by have := HL.out; omega) HM.out.1 HM.out.2 HB5.out (by rw [HWI2.out, HKI.out.1]; exact hR) hP hC
                have HS6 := hid hS6
                have HBU : Hid (∃ c ∈ C', c.is (whA x) (whI x) ∧ busyE (enAt c.ents sI) = true) := by rw [← HSI.out, ← HKI.out.1]; exact hbusy
                rw [HSI.out]
                clear hR hP hC hS6 hbusy HAS HM HB5 hw1 hw2 hN hw4
                have q3 : w6.cell? ⟨sb, off + i * 5 + 3, none⟩ = some (.bool an) := HQ.out _ HS6.out.ms.bs.be 3 (by omega)
                cases an
                · go_wp2
                  go_roundw
                  case rel => exact ⟨i + 1, _, _, _, _, _, _, _, by first | (rw [hwi]; rfl) | rfl, hlt, HS6.out⟩
                  case measure => first | exact meas hwi hi' | exact meas rfl hi'
                · have HW2 := hid (who_any (x : Int) w6 (by omega))
                  go_wp2_with fail
                  refine HW2.out.mono ?_
                  rintro _ w7 ⟨rfl, b7⟩
                  have HDN := hid (done_any (HS6.out.tc.mv (Mv.of_below b7 K6 (fun _ => 9)) id).pc answer HIN.out (i := whI x) (a := whA x) (seq := sI) HSQ.out)
                  have HB7 := hid b7
                  clear b7 HW2 q3
                  go_wp2_with fail
                  refine HDN.out.mono ?_
                  rintro _ w8 ⟨v8, C8, rfl, hR, hP, hC⟩
                  obtain ⟨rfl, K8, hS8⟩ := HS6.out.answered HX.out.1 HNM.out.1.2 rfl HBU.out HB7.out hR hP hC
                  have HS8 := hid hS8
                  clear hR hP hC hS8 HDN HB7 HS6 HBU
                  go_wp2
                  go_roundw
                  case rel => exact ⟨i + 1, _, _, _, _, _, _, _, by first | (rw [hwi]; rfl) | rfl, hlt, HS8.out⟩
                  case measure => first | exact meas hwi hi' | exact meas rfl hi'
          · have q2 : wq.cell? ⟨sb, off + i * 5 + 2, none⟩ = some (.bool nw) := HQ.out _ HSq.out.ms.bs.be 2 (by omega)
            have q4 : wq.cell? ⟨sb, off + i * 5 + 4, none⟩ = some (.bool true) := HQ.out _ HSq.out.ms.bs.be 4 (by omega)
            as_aux_lemma =>
            have hp9 : 0 < ln x := by have := HK.out.2.1; omega
            obtain ⟨v', hr, hS'⟩ := HSq.out.ends HX.out.2 hp9 HV.out.1
            obtain ⟨o', l', c', rfl⟩ : ∃ o' l' c', v' = .slice o' l' c' := by
              obtain ⟨u, hu, hwt⟩ := hS'.ms.wt x HX.out.2
              rw [Array.getElem?_setIfInBounds, if_pos rfl, if_pos (by rw [HSq.out.ms.cz]; exact HX.out.2)] at hu
              cases hu
              obtain ⟨o', c', e, _⟩ := hwt.form
              exact ⟨o', _, c', e⟩
            obtain ⟨w4, hw4⟩ : ∃ w4, wq.setCell ⟨Wb, x, none⟩ (.slice o' l' c') = w4 := ⟨_, rfl⟩
            rw [hw4] at hS'
            have HE := hid hS'.up
            have fW := HSq.out.ms.wf x
            clear hS' hp9 HSq HCE
            go_wp2
            go_roundw
            case rel => exact ⟨i + 1, _, _, _, _, _, _, _, by first | (rw [hwi]; rfl) | rfl, hlt, HE.out⟩
            case measure => first | exact meas hwi hi' | exact meas rfl hi'

    · obtain rfl : i = len := by have := HI.out; omega
      have HE := hid HS.out.ms.bs.be
      clear HS
      go_wp2
      go_ret
      exact ⟨rfl, HE.out⟩
end Go.Proofs.Ytnpffhgmakbdnaa
