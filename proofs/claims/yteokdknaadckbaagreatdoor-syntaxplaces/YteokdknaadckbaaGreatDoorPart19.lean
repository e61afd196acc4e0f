/- SyntaxPlaces' walk: a source that is refused by a token. -/
import Derived.Test.YteokdknaadckbaaGreatDoorPart18
namespace Go.Proofs.YteokdknaadckbaaGreatDoor
open Go.RowKit

theorem S_front2 (l : List UInt8) (p : Nat) : (⟨l.toArray⟩ : ByteArray).extract 0 p = ⟨(l.take p).toArray⟩ := by
  rw [Lx.S_extract]; simp
theorem S_app2 (a b : List UInt8) : (⟨a.toArray⟩ : ByteArray) ++ ⟨b.toArray⟩ = ⟨(a ++ b).toArray⟩ := by
  apply ByteArray.ext; simp
set_option maxRecDepth 4000 in
set_option maxHeartbeats 4000000 in
theorem sp_tok40 (l m : List UInt8) (w : World) (hG : GlobAt w) (hl : l.length ≤ 9223372036854775807) (hm : m.length ≤ 9223372036854775807) (h : guardP l m ≤ 2147483647) (us : List Tok) (v : Tok) (vs : List Tok) (hs : scanP l = .ok (us ++ v :: vs)) (n : Nat) (hp : parseP l = .err 40 n)
    (hn : v.at_ = n) (hus : ∀ x ∈ us, x.at_ ≠ n) (hnl : n ≤ l.length) (hcut : parseP (l.take n) = .err 40 n ∨ ∃ t, parseP (l.take n) = .ok t)
    (hrest : ∀ y ys, vs = y :: ys → y.at_ ≤ l.length ∧ ∀ rest : List UInt8, (∃ ts2, scanP (l.take y.at_ ++ [32] ++ rest) = .ok ts2) → parseP (l.take y.at_ ++ [32] ++ rest) = .err 40 n) :
    Calls Tryz.prog 7 #[.string ⟨l.toArray⟩, .string ⟨m.toArray⟩] w fun e w' => e = .returned (.bool true) ∧ Below w.heap.size w w' := by
  have HGR : Hid (Grd l m) := grd hl hm
  have h1 : ¬ (2147483647 : Int) < (guardP l m : Nat) := by omega
  have h2 : decide ((2147483647 : Int) < (guardP l m : Nat)) = false := by simp; omega
  have HA : Hid (Calls Tryz.prog 10 #[] w (fun e w' => e = .returned (.bool true) ∧ Below w.heap.size w w')) := awake_any w hG
  have HS : Hid (∀ w, Calls Tryz.prog 16 #[.string ⟨l.toArray⟩] w (Lx.ScanPost (.ok (us ++ v :: vs)) w)) := by
    show ∀ w, _
    intro w
    have := Lx.scan_any l w
    rw [hs] at this
    exact this
  have HP : Hid (∀ w, GlobAt w → Calls Tryz.prog 11 #[.string ⟨l.toArray⟩] w (ParsePost (.err 40 n) w)) := by
    show ∀ w, _
    intro w hG
    have := parse_any l w hG
    rw [hp] at this
    exact this
  have HC : Hid (∀ w, GlobAt w → Calls Tryz.prog 11 #[.string ((⟨l.toArray⟩ : ByteArray).extract 0 n)] w (ParsePost (parseP (l.take n)) w)) := by
    show ∀ w, _
    intro w hG
    rw [S_front2]
    exact parse_any _ w hG
  have HCUT : Hid (parseP (l.take n) = .err 40 n ∨ ∃ t, parseP (l.take n) = .ok t) := hcut
  have hsm := guard_small h
  have HREST : Hid (∀ y ys, vs = y :: ys → y.at_ ≤ l.length ∧ ∀ rest : List UInt8, (∃ ts2, scanP (l.take y.at_ ++ [32] ++ rest) = .ok ts2) → parseP (l.take y.at_ ++ [32] ++ rest) = .err 40 n) := hrest
  have HG : Hid (GlobAt w) := hG
  have HT16 : Hid ((us ++ v :: vs).length ≤ 16001) := (scan_ok hs).2.1
  obtain ⟨K, hK⟩ : ∃ K, us.length = K := ⟨_, rfl⟩
  obtain ⟨VN, hVN⟩ : ∃ x, vs.length = x := ⟨_, rfl⟩
  have HL : Hid ((us ++ v :: vs).length = K + 1 + VN) := by show _ = _; simp; omega
  have HKV : Hid (us.length = K ∧ vs.length = VN) := ⟨hK, hVN⟩
  have HUS : Hid (∀ j (hj : j < (us ++ v :: vs).length), j < K → ¬ ((us ++ v :: vs)[j]).at_ = n) := by
    show ∀ j hj, _
    intro j hj hjk
    rw [List.getElem_append_left (by omega)]
    exact hus _ (List.getElem_mem _)
  have HV : Hid (∀ (hj : K < (us ++ v :: vs).length), ((us ++ v :: vs)[K]).at_ = n) := by
    show ∀ hj, _
    intro hj
    rw [List.getElem_append_right (by omega)]
    simp [hK, hn]
  have hkv : K + 1 + VN ≤ 16001 := by rw [← HL.out]; exact HT16.out
  have hkv' : (K : Int) + 1 + (VN : Int) ≤ 16001 := by omega
  have hnl' : (n : Int) ≤ l.length := by omega
  have hn0 : (0 : Int) ≤ (n : Int) := by omega
  have hll : (l.length : Int) ≤ 2147483647 := by omega
  have hml : (m.length : Int) ≤ 2147483647 := by omega
  have x0 := ext0
  have x1 := ext1
  have x2 := ext2
  clear h hl hm hG hs hp hcut hrest hK hVN hus hn
  first | (
    go_enter Tryz.func7, Tryz.ntmps7
    go_wp2_with (first | (go_at_call_of 8 (Value.int .i64 (l.length : Int)); refine (HGR.out.a _).mono ?_; rintro e wi ⟨rfl, hwi⟩; rw [hwi]; clear hwi wi) | (go_at_call_of 8 (Value.int .i64 (m.length : Int)); refine (HGR.out.b _).mono ?_; rintro e wi ⟨rfl, hwi⟩; rw [hwi]; clear hwi wi) | (go_at_call 9; refine (HGR.out.c _).mono ?_; rintro e wi ⟨rfl, hwi⟩; rw [hwi]; clear hwi wi) | (go_at_call 8; refine (HGR.out.d _).mono ?_; rintro e wi ⟨rfl, hwi⟩; rw [hwi]; clear hwi wi))
    clear h1 h2
    refine HA.out.mono ?_
    rintro e w1 ⟨rfl, hB⟩
    have HB1 : Hid (Below w.heap.size w w1) := hB
    clear hB
    go_wp2_with fail
    refine (HS.out _).mono ?_
    rintro e w2 ⟨g, cap, rfl, ho, hB⟩
    have HB2 : Hid (Below w.heap.size w w2) := HB1.out.trans (hB.mono HB1.out.size)
    have HTP : Hid (∀ j (hj : j < (us ++ v :: vs).length), w2.cell? ⟨g, j * 4 + 3, none⟩ = some (.int .i64 ((us ++ v :: vs)[j]).at_)) := fun j hj => tok_place ho j hj
    have HGL : Hid (g < w2.heap.size) := (ho.lt g rfl).2
    clear hB ho
    rw [HL.out]
    go_wp2_with fail
    refine (HP.out _ (HG.out.below HB2.out)).mono ?_
    rintro e w3 ⟨rfl, hB⟩
    have HBX : Hid (Below w2.heap.size w2 (w3.alloc (.cells #[.int .i64 0, .string ⟨#[]⟩, .int .i64 0, .int .i64 0, .slice none 0 0] 29))) := hB.alloc hB.size _
    clear hB
    unfold kidV
    go_wp2_with fail
    generalize w3.alloc (.cells #[.int .i64 0, .string ⟨#[]⟩, .int .i64 0, .int .i64 0, .slice none 0 0] 29) = wx at *
    go_loopw [12] (fun i wr => ∃ (q : Nat), i = .int .i64 q ∧ q ≤ K ∧ Hid (Below w2.heap.size w2 wr)) (fun i _ => K - (intOf i).toNat)
    case atStart => exact ⟨0, rfl, by omega, HBX⟩
    case round =>
      obtain ⟨q, rfl, hq, HBR⟩ := hrel
      have hqt : q < (us ++ v :: vs).length := by have := HL.out; omega
      have hqi : (q : Int) < ((K + 1 + VN : Nat) : Int) := by omega
      have hq0 : (0 : Int) ≤ (q : Int) := by omega
      have hqm : (q : Int) ≤ 20000 := by omega
      have hc : wr.cell? ⟨g, q * 4 + 3, none⟩ = some (.int .i64 ((us ++ v :: vs)[q]).at_) := by
        rw [(cells_same (HBR.out.block g HGL.out) _).1]
        exact HTP.out q hqt
      by_cases hlt : q < K
      · have hne := HUS.out q hqt hlt
        generalize ((us ++ v :: vs)[q]).at_ = z at hc hne
        have hne' : ¬ ((z : Int) = (n : Int)) := by omega
        have hneb : ((z : Int) != (n : Int)) = true := by simp; omega
        have HLT : Hid (q < K) := hlt
        clear hne hqt
        go_wp2
        go_roundw
        case rel => exact ⟨q + 1, by go_num, HLT.out, HBR⟩
        case measure => have := HLT.out; simp [intOf]; omega
      · have hqk : q = K := by omega
        subst hqk
        rw [HV.out hqt] at hc
        have hneb : ((n : Int) != (n : Int)) = false := by simp
        have hkq : ¬ ((q : Int) = ((q + 1 + VN : Nat) : Int)) := by omega
        have hkb : ((q : Int) == ((q + 1 + VN : Nat) : Int)) = false := by simp; omega
        clear hqt
        go_wp2_with fail
        have HBWR : Hid (Below w.heap.size w wr) := HB2.out.trans (HBR.out.mono HB2.out.size)
        refine (HC.out _ (HG.out.below HBWR.out)).mono ?_
        rcases HCUT.out with hcu | ⟨t, hcu⟩
        · rw [hcu]
          rintro e w4 ⟨rfl, hB⟩
          have HBY : Hid (Below w2.heap.size w2 (w4.alloc (.cells #[.int .i64 0, .string ⟨#[]⟩, .int .i64 0, .int .i64 0, .slice none 0 0] 29))) := (HBR.out.trans (hB.mono HBR.out.size)).alloc (HBR.out.trans (hB.mono HBR.out.size)).size _
          have HBY4 : Hid (Below w2.heap.size w2 w4) := HBR.out.trans (hB.mono HBR.out.size)
          clear hB hcu hc
          unfold kidV
          have HBW : Hid (Below w.heap.size w (w4.alloc (.cells #[.int .i64 0, .string ⟨#[]⟩, .int .i64 0, .int .i64 0, .slice none 0 0] 29))) := HB2.out.trans (HBY.out.mono HB2.out.size)
          by_cases hv0 : VN = 0
          · subst hv0
            go_wp2
            go_ret
            exact ⟨rfl, HBW.out⟩
          · obtain ⟨y, ys, hvs⟩ : ∃ y ys, vs = y :: ys := by
              cases hvs : vs with
              | nil => rw [hvs] at HKV; exact absurd HKV.out.2.symm hv0
              | cons y ys => exact ⟨y, ys, rfl⟩
            have HY := HREST.out y ys hvs
            have hqt : q + 1 < (us ++ v :: vs).length := by have := HL.out; omega
            have hyc : (w4.alloc (.cells #[.int .i64 0, .string ⟨#[]⟩, .int .i64 0, .int .i64 0, .slice none 0 0] 29)).cell? ⟨g, (q + 1) * 4 + 3, none⟩ = some (.int .i64 y.at_) := by
              rw [(cells_same (HBY.out.block g HGL.out) _).1, HTP.out (q + 1) hqt]
              have : (us ++ v :: vs)[q + 1] = y := by
                subst hvs
                rw [List.getElem_append_right (by have := HKV.out.1; omega)]
                simp [HKV.out.1]
              rw [this]
            generalize y.at_ = z at HY hyc
            have hg4 : g < w4.heap.size := Nat.lt_of_lt_of_le HGL.out HBY4.out.size
            have hgn : ¬ g = w4.heap.size := by omega
            have hy4 : w4.cell? ⟨g, (q + 1) * 4 + 3, none⟩ = some (.int .i64 z) := by rw [← hyc]; exact (World.cell?_alloc_lt _ _ _ hg4).symm
            clear hyc
            have hz1 : (z : Int) ≤ l.length := by have := HY.1; omega
            have hz0 : (0 : Int) ≤ (z : Int) := by omega
            have hkn : ¬ ((q : Int) + 1 = ((q + 1 + VN : Nat) : Int)) := by omega
            have hkb : ((q : Int) + 1 == ((q + 1 + VN : Nat) : Int)) = false := by simp; omega
            have hk1 : (0 : Int) ≤ (q : Int) + 1 := by omega
            have hk2 : (q : Int) + 1 < ((q + 1 + VN : Nat) : Int) := by omega
            have HRS : Hid ((∃ ts2, scanP (l.take z ++ [32] ++ m) = .ok ts2) → parseP (l.take z ++ [32] ++ m) = .err 40 n) := HY.2 m
            have HTX : Hid ((⟨l.toArray⟩ : ByteArray).extract 0 z ++ ⟨#[32]⟩ ++ ⟨m.toArray⟩ = ⟨(l.take z ++ [32] ++ m).toArray⟩) := by
              show _ = _
              rw [S_front2, show (⟨#[32]⟩ : ByteArray) = ⟨([32] : List UInt8).toArray⟩ from rfl, S_app2, S_app2]
            have HSC : Hid (∀ w, Calls Tryz.prog 16 #[.string ((⟨l.toArray⟩ : ByteArray).extract 0 z ++ ⟨#[32]⟩ ++ ⟨m.toArray⟩)] w (Lx.ScanPost (scanP (l.take z ++ [32] ++ m)) w)) := by
              show ∀ w, _
              intro w
              rw [HTX.out]
              exact Lx.scan_any _ w
            have HPA : Hid (∀ w, GlobAt w → Calls Tryz.prog 11 #[.string ((⟨l.toArray⟩ : ByteArray).extract 0 z ++ ⟨#[32]⟩ ++ ⟨m.toArray⟩)] w (ParsePost (parseP (l.take z ++ [32] ++ m)) w)) := by
              show ∀ w, _
              intro w hG
              rw [HTX.out]
              exact parse_any _ w hG
            have HLX : Hid (∀ r i, scanP (l.take z ++ [32] ++ m) = .err r i → parseP (l.take z ++ [32] ++ m) = .err r i ∧ r ≠ 0) := by
              show ∀ r i, _
              intro r i hr
              exact ⟨by unfold parseP; rw [hr], fault_nonzero hr⟩
            clear HY hqt hv0 hvs
            generalize scanP (l.take z ++ [32] ++ m) = R5 at *
            generalize parseP (l.take z ++ [32] ++ m) = R6 at *
            go_wp2_with fail
            refine (HSC.out _).mono ?_
            cases R5 with
            | err r i =>
              obtain ⟨h6, h7⟩ := HLX.out r i rfl
              subst h6
              rintro e w6 ⟨rfl, hB⟩
              have HB6 : Hid (Below w.heap.size w w6) := HBW.out.trans (hB.mono HBW.out.size)
              have r1 : (r != 0) = true := by simp [h7]
              clear hB h7
              go_wp2_with fail
              refine (HPA.out _ (HG.out.below HB6.out)).mono ?_
              rintro e w7 ⟨rfl, hB⟩
              have HB7 : Hid (Below w.heap.size w (w7.alloc (.cells #[.int .i64 0, .string ⟨#[]⟩, .int .i64 0, .int .i64 0, .slice none 0 0] 29))) := (HB6.out.trans (hB.mono HB6.out.size)).alloc (HB6.out.trans (hB.mono HB6.out.size)).size _
              clear hB
              unfold kidV
              go_wp2
              go_ret
              exact ⟨rfl, HB7.out⟩
            | ok ts2 =>
              have h6 := HRS.out ⟨ts2, rfl⟩
              subst h6
              rintro e w6 ⟨g6, cap6, rfl, ho, hB⟩
              have HB6 : Hid (Below w.heap.size w w6) := HBW.out.trans (hB.mono HBW.out.size)
              clear hB ho
              go_wp2_with fail
              refine (HPA.out _ (HG.out.below HB6.out)).mono ?_
              rintro e w7 ⟨rfl, hB⟩
              have HB7 : Hid (Below w.heap.size w (w7.alloc (.cells #[.int .i64 0, .string ⟨#[]⟩, .int .i64 0, .int .i64 0, .slice none 0 0] 29))) := (HB6.out.trans (hB.mono HB6.out.size)).alloc (HB6.out.trans (hB.mono HB6.out.size)).size _
              clear hB
              unfold kidV
              go_wp2
              go_ret
              exact ⟨rfl, HB7.out⟩
        · rw [hcu]
          rintro e w4 ⟨v8, rfl, hT, hB⟩
          obtain ⟨k8, n8, m8, a8, ks8⟩ := t
          obtain ⟨sl, rfl, hL⟩ := treeAt_node.1 hT
          obtain ⟨o8, l8, c8, rfl⟩ := hL.shape
          have HBY : Hid (Below w2.heap.size w2 (w4.alloc (.cells #[.int .i64 k8, .string ⟨n8.toArray⟩, .int .i64 m8, .int .i64 a8, .slice o8 l8 c8] 29))) := (HBR.out.trans (hB.mono HBR.out.size)).alloc (HBR.out.trans (hB.mono HBR.out.size)).size _
          have HBY4 : Hid (Below w2.heap.size w2 w4) := HBR.out.trans (hB.mono HBR.out.size)
          clear hB hT hL hcu hc
          unfold kidV
          have HBW : Hid (Below w.heap.size w (w4.alloc (.cells #[.int .i64 k8, .string ⟨n8.toArray⟩, .int .i64 m8, .int .i64 a8, .slice o8 l8 c8] 29))) := HB2.out.trans (HBY.out.mono HB2.out.size)
          by_cases hv0 : VN = 0
          · subst hv0
            go_wp2
            go_ret
            exact ⟨rfl, HBW.out⟩
          · obtain ⟨y, ys, hvs⟩ : ∃ y ys, vs = y :: ys := by
              cases hvs : vs with
              | nil => rw [hvs] at HKV; exact absurd HKV.out.2.symm hv0
              | cons y ys => exact ⟨y, ys, rfl⟩
            have HY := HREST.out y ys hvs
            have hqt : q + 1 < (us ++ v :: vs).length := by have := HL.out; omega
            have hyc : (w4.alloc (.cells #[.int .i64 k8, .string ⟨n8.toArray⟩, .int .i64 m8, .int .i64 a8, .slice o8 l8 c8] 29)).cell? ⟨g, (q + 1) * 4 + 3, none⟩ = some (.int .i64 y.at_) := by
              rw [(cells_same (HBY.out.block g HGL.out) _).1, HTP.out (q + 1) hqt]
              have : (us ++ v :: vs)[q + 1] = y := by
                subst hvs
                rw [List.getElem_append_right (by have := HKV.out.1; omega)]
                simp [HKV.out.1]
              rw [this]
            generalize y.at_ = z at HY hyc
            have hg4 : g < w4.heap.size := Nat.lt_of_lt_of_le HGL.out HBY4.out.size
            have hgn : ¬ g = w4.heap.size := by omega
            have hy4 : w4.cell? ⟨g, (q + 1) * 4 + 3, none⟩ = some (.int .i64 z) := by rw [← hyc]; exact (World.cell?_alloc_lt _ _ _ hg4).symm
            clear hyc
            have hz1 : (z : Int) ≤ l.length := by have := HY.1; omega
            have hz0 : (0 : Int) ≤ (z : Int) := by omega
            have hkn : ¬ ((q : Int) + 1 = ((q + 1 + VN : Nat) : Int)) := by omega
            have hkb : ((q : Int) + 1 == ((q + 1 + VN : Nat) : Int)) = false := by simp; omega
            have hk1 : (0 : Int) ≤ (q : Int) + 1 := by omega
            have hk2 : (q : Int) + 1 < ((q + 1 + VN : Nat) : Int) := by omega
            have HRS : Hid ((∃ ts2, scanP (l.take z ++ [32] ++ m) = .ok ts2) → parseP (l.take z ++ [32] ++ m) = .err 40 n) := HY.2 m
            have HTX : Hid ((⟨l.toArray⟩ : ByteArray).extract 0 z ++ ⟨#[32]⟩ ++ ⟨m.toArray⟩ = ⟨(l.take z ++ [32] ++ m).toArray⟩) := by
              show _ = _
              rw [S_front2, show (⟨#[32]⟩ : ByteArray) = ⟨([32] : List UInt8).toArray⟩ from rfl, S_app2, S_app2]
            have HSC : Hid (∀ w, Calls Tryz.prog 16 #[.string ((⟨l.toArray⟩ : ByteArray).extract 0 z ++ ⟨#[32]⟩ ++ ⟨m.toArray⟩)] w (Lx.ScanPost (scanP (l.take z ++ [32] ++ m)) w)) := by
              show ∀ w, _
              intro w
              rw [HTX.out]
              exact Lx.scan_any _ w
            have HPA : Hid (∀ w, GlobAt w → Calls Tryz.prog 11 #[.string ((⟨l.toArray⟩ : ByteArray).extract 0 z ++ ⟨#[32]⟩ ++ ⟨m.toArray⟩)] w (ParsePost (parseP (l.take z ++ [32] ++ m)) w)) := by
              show ∀ w, _
              intro w hG
              rw [HTX.out]
              exact parse_any _ w hG
            have HLX : Hid (∀ r i, scanP (l.take z ++ [32] ++ m) = .err r i → parseP (l.take z ++ [32] ++ m) = .err r i ∧ r ≠ 0) := by
              show ∀ r i, _
              intro r i hr
              exact ⟨by unfold parseP; rw [hr], fault_nonzero hr⟩
            clear HY hqt hv0 hvs
            generalize scanP (l.take z ++ [32] ++ m) = R5 at *
            generalize parseP (l.take z ++ [32] ++ m) = R6 at *
            go_wp2_with fail
            refine (HSC.out _).mono ?_
            cases R5 with
            | err r i =>
              obtain ⟨h6, h7⟩ := HLX.out r i rfl
              subst h6
              rintro e w6 ⟨rfl, hB⟩
              have HB6 : Hid (Below w.heap.size w w6) := HBW.out.trans (hB.mono HBW.out.size)
              have r1 : (r != 0) = true := by simp [h7]
              clear hB h7
              go_wp2_with fail
              refine (HPA.out _ (HG.out.below HB6.out)).mono ?_
              rintro e w7 ⟨rfl, hB⟩
              have HB7 : Hid (Below w.heap.size w (w7.alloc (.cells #[.int .i64 0, .string ⟨#[]⟩, .int .i64 0, .int .i64 0, .slice none 0 0] 29))) := (HB6.out.trans (hB.mono HB6.out.size)).alloc (HB6.out.trans (hB.mono HB6.out.size)).size _
              clear hB
              unfold kidV
              go_wp2
              go_ret
              exact ⟨rfl, HB7.out⟩
            | ok ts2 =>
              have h6 := HRS.out ⟨ts2, rfl⟩
              subst h6
              rintro e w6 ⟨g6, cap6, rfl, ho, hB⟩
              have HB6 : Hid (Below w.heap.size w w6) := HBW.out.trans (hB.mono HBW.out.size)
              clear hB ho
              go_wp2_with fail
              refine (HPA.out _ (HG.out.below HB6.out)).mono ?_
              rintro e w7 ⟨rfl, hB⟩
              have HB7 : Hid (Below w.heap.size w (w7.alloc (.cells #[.int .i64 0, .string ⟨#[]⟩, .int .i64 0, .int .i64 0, .slice none 0 0] 29))) := (HB6.out.trans (hB.mono HB6.out.size)).alloc (HB6.out.trans (hB.mono HB6.out.size)).size _
              clear hB
              unfold kidV
              go_wp2
              go_ret
              exact ⟨rfl, HB7.out⟩)
set_option maxRecDepth 4000 in
set_option maxHeartbeats 4000000 in
theorem sp_tok41 (l m : List UInt8) (w : World) (hG : GlobAt w) (hl : l.length ≤ 9223372036854775807) (hm : m.length ≤ 9223372036854775807) (h : guardP l m ≤ 2147483647) (us : List Tok) (v : Tok) (vs : List Tok) (hs : scanP l = .ok (us ++ v :: vs)) (n : Nat) (hp : parseP l = .err 41 n)
    (hn : v.at_ = n) (hus : ∀ x ∈ us, x.at_ ≠ n) (hnl : n ≤ l.length) (hcut : parseP (l.take n) = .err 40 n ∨ ∃ t, parseP (l.take n) = .ok t)
    (hrest : ∀ y ys, vs = y :: ys → y.at_ ≤ l.length ∧ ∀ rest : List UInt8, (∃ ts2, scanP (l.take y.at_ ++ [32] ++ rest) = .ok ts2) → parseP (l.take y.at_ ++ [32] ++ rest) = .err 41 n) :
    Calls Tryz.prog 7 #[.string ⟨l.toArray⟩, .string ⟨m.toArray⟩] w fun e w' => e = .returned (.bool true) ∧ Below w.heap.size w w' := by
  have HGR : Hid (Grd l m) := grd hl hm
  have h1 : ¬ (2147483647 : Int) < (guardP l m : Nat) := by omega
  have h2 : decide ((2147483647 : Int) < (guardP l m : Nat)) = false := by simp; omega
  have HA : Hid (Calls Tryz.prog 10 #[] w (fun e w' => e = .returned (.bool true) ∧ Below w.heap.size w w')) := awake_any w hG
  have HS : Hid (∀ w, Calls Tryz.prog 16 #[.string ⟨l.toArray⟩] w (Lx.ScanPost (.ok (us ++ v :: vs)) w)) := by
    show ∀ w, _
    intro w
    have := Lx.scan_any l w
    rw [hs] at this
    exact this
  have HP : Hid (∀ w, GlobAt w → Calls Tryz.prog 11 #[.string ⟨l.toArray⟩] w (ParsePost (.err 41 n) w)) := by
    show ∀ w, _
    intro w hG
    have := parse_any l w hG
    rw [hp] at this
    exact this
  have HC : Hid (∀ w, GlobAt w → Calls Tryz.prog 11 #[.string ((⟨l.toArray⟩ : ByteArray).extract 0 n)] w (ParsePost (parseP (l.take n)) w)) := by
    show ∀ w, _
    intro w hG
    rw [S_front2]
    exact parse_any _ w hG
  have HCUT : Hid (parseP (l.take n) = .err 40 n ∨ ∃ t, parseP (l.take n) = .ok t) := hcut
  have hsm := guard_small h
  have HREST : Hid (∀ y ys, vs = y :: ys → y.at_ ≤ l.length ∧ ∀ rest : List UInt8, (∃ ts2, scanP (l.take y.at_ ++ [32] ++ rest) = .ok ts2) → parseP (l.take y.at_ ++ [32] ++ rest) = .err 41 n) := hrest
  have HG : Hid (GlobAt w) := hG
  have HT16 : Hid ((us ++ v :: vs).length ≤ 16001) := (scan_ok hs).2.1
  obtain ⟨K, hK⟩ : ∃ K, us.length = K := ⟨_, rfl⟩
  obtain ⟨VN, hVN⟩ : ∃ x, vs.length = x := ⟨_, rfl⟩
  have HL : Hid ((us ++ v :: vs).length = K + 1 + VN) := by show _ = _; simp; omega
  have HKV : Hid (us.length = K ∧ vs.length = VN) := ⟨hK, hVN⟩
  have HUS : Hid (∀ j (hj : j < (us ++ v :: vs).length), j < K → ¬ ((us ++ v :: vs)[j]).at_ = n) := by
    show ∀ j hj, _
    intro j hj hjk
    rw [List.getElem_append_left (by omega)]
    exact hus _ (List.getElem_mem _)
  have HV : Hid (∀ (hj : K < (us ++ v :: vs).length), ((us ++ v :: vs)[K]).at_ = n) := by
    show ∀ hj, _
    intro hj
    rw [List.getElem_append_right (by omega)]
    simp [hK, hn]
  have hkv : K + 1 + VN ≤ 16001 := by rw [← HL.out]; exact HT16.out
  have hkv' : (K : Int) + 1 + (VN : Int) ≤ 16001 := by omega
  have hnl' : (n : Int) ≤ l.length := by omega
  have hn0 : (0 : Int) ≤ (n : Int) := by omega
  have hll : (l.length : Int) ≤ 2147483647 := by omega
  have hml : (m.length : Int) ≤ 2147483647 := by omega
  have x0 := ext0
  have x1 := ext1
  have x2 := ext2
  clear h hl hm hG hs hp hcut hrest hK hVN hus hn
  first | (
    go_enter Tryz.func7, Tryz.ntmps7
    go_wp2_with (first | (go_at_call_of 8 (Value.int .i64 (l.length : Int)); refine (HGR.out.a _).mono ?_; rintro e wi ⟨rfl, hwi⟩; rw [hwi]; clear hwi wi) | (go_at_call_of 8 (Value.int .i64 (m.length : Int)); refine (HGR.out.b _).mono ?_; rintro e wi ⟨rfl, hwi⟩; rw [hwi]; clear hwi wi) | (go_at_call 9; refine (HGR.out.c _).mono ?_; rintro e wi ⟨rfl, hwi⟩; rw [hwi]; clear hwi wi) | (go_at_call 8; refine (HGR.out.d _).mono ?_; rintro e wi ⟨rfl, hwi⟩; rw [hwi]; clear hwi wi))
    clear h1 h2
    refine HA.out.mono ?_
    rintro e w1 ⟨rfl, hB⟩
    have HB1 : Hid (Below w.heap.size w w1) := hB
    clear hB
    go_wp2_with fail
    refine (HS.out _).mono ?_
    rintro e w2 ⟨g, cap, rfl, ho, hB⟩
    have HB2 : Hid (Below w.heap.size w w2) := HB1.out.trans (hB.mono HB1.out.size)
    have HTP : Hid (∀ j (hj : j < (us ++ v :: vs).length), w2.cell? ⟨g, j * 4 + 3, none⟩ = some (.int .i64 ((us ++ v :: vs)[j]).at_)) := fun j hj => tok_place ho j hj
    have HGL : Hid (g < w2.heap.size) := (ho.lt g rfl).2
    clear hB ho
    rw [HL.out]
    go_wp2_with fail
    refine (HP.out _ (HG.out.below HB2.out)).mono ?_
    rintro e w3 ⟨rfl, hB⟩
    have HBX : Hid (Below w2.heap.size w2 (w3.alloc (.cells #[.int .i64 0, .string ⟨#[]⟩, .int .i64 0, .int .i64 0, .slice none 0 0] 29))) := hB.alloc hB.size _
    clear hB
    unfold kidV
    go_wp2_with fail
    generalize w3.alloc (.cells #[.int .i64 0, .string ⟨#[]⟩, .int .i64 0, .int .i64 0, .slice none 0 0] 29) = wx at *
    go_loopw [12] (fun i wr => ∃ (q : Nat), i = .int .i64 q ∧ q ≤ K ∧ Hid (Below w2.heap.size w2 wr)) (fun i _ => K - (intOf i).toNat)
    case atStart => exact ⟨0, rfl, by omega, HBX⟩
    case round =>
      obtain ⟨q, rfl, hq, HBR⟩ := hrel
      have hqt : q < (us ++ v :: vs).length := by have := HL.out; omega
      have hqi : (q : Int) < ((K + 1 + VN : Nat) : Int) := by omega
      have hq0 : (0 : Int) ≤ (q : Int) := by omega
      have hqm : (q : Int) ≤ 20000 := by omega
      have hc : wr.cell? ⟨g, q * 4 + 3, none⟩ = some (.int .i64 ((us ++ v :: vs)[q]).at_) := by
        rw [(cells_same (HBR.out.block g HGL.out) _).1]
        exact HTP.out q hqt
      by_cases hlt : q < K
      · have hne := HUS.out q hqt hlt
        generalize ((us ++ v :: vs)[q]).at_ = z at hc hne
        have hne' : ¬ ((z : Int) = (n : Int)) := by omega
        have hneb : ((z : Int) != (n : Int)) = true := by simp; omega
        have HLT : Hid (q < K) := hlt
        clear hne hqt
        go_wp2
        go_roundw
        case rel => exact ⟨q + 1, by go_num, HLT.out, HBR⟩
        case measure => have := HLT.out; simp [intOf]; omega
      · have hqk : q = K := by omega
        subst hqk
        rw [HV.out hqt] at hc
        have hneb : ((n : Int) != (n : Int)) = false := by simp
        have hkq : ¬ ((q : Int) = ((q + 1 + VN : Nat) : Int)) := by omega
        have hkb : ((q : Int) == ((q + 1 + VN : Nat) : Int)) = false := by simp; omega
        clear hqt
        go_wp2_with fail
        have HBWR : Hid (Below w.heap.size w wr) := HB2.out.trans (HBR.out.mono HB2.out.size)
        refine (HC.out _ (HG.out.below HBWR.out)).mono ?_
        rcases HCUT.out with hcu | ⟨t, hcu⟩
        · rw [hcu]
          rintro e w4 ⟨rfl, hB⟩
          have HBY : Hid (Below w2.heap.size w2 (w4.alloc (.cells #[.int .i64 0, .string ⟨#[]⟩, .int .i64 0, .int .i64 0, .slice none 0 0] 29))) := (HBR.out.trans (hB.mono HBR.out.size)).alloc (HBR.out.trans (hB.mono HBR.out.size)).size _
          have HBY4 : Hid (Below w2.heap.size w2 w4) := HBR.out.trans (hB.mono HBR.out.size)
          clear hB hcu hc
          unfold kidV
          have HBW : Hid (Below w.heap.size w (w4.alloc (.cells #[.int .i64 0, .string ⟨#[]⟩, .int .i64 0, .int .i64 0, .slice none 0 0] 29))) := HB2.out.trans (HBY.out.mono HB2.out.size)
          by_cases hv0 : VN = 0
          · subst hv0
            go_wp2
            go_ret
            exact ⟨rfl, HBW.out⟩
          · obtain ⟨y, ys, hvs⟩ : ∃ y ys, vs = y :: ys := by
              cases hvs : vs with
              | nil => rw [hvs] at HKV; exact absurd HKV.out.2.symm hv0
              | cons y ys => exact ⟨y, ys, rfl⟩
            have HY := HREST.out y ys hvs
            have hqt : q + 1 < (us ++ v :: vs).length := by have := HL.out; omega
            have hyc : (w4.alloc (.cells #[.int .i64 0, .string ⟨#[]⟩, .int .i64 0, .int .i64 0, .slice none 0 0] 29)).cell? ⟨g, (q + 1) * 4 + 3, none⟩ = some (.int .i64 y.at_) := by
              rw [(cells_same (HBY.out.block g HGL.out) _).1, HTP.out (q + 1) hqt]
              have : (us ++ v :: vs)[q + 1] = y := by
                subst hvs
                rw [List.getElem_append_right (by have := HKV.out.1; omega)]
                simp [HKV.out.1]
              rw [this]
            generalize y.at_ = z at HY hyc
            have hg4 : g < w4.heap.size := Nat.lt_of_lt_of_le HGL.out HBY4.out.size
            have hgn : ¬ g = w4.heap.size := by omega
            have hy4 : w4.cell? ⟨g, (q + 1) * 4 + 3, none⟩ = some (.int .i64 z) := by rw [← hyc]; exact (World.cell?_alloc_lt _ _ _ hg4).symm
            clear hyc
            have hz1 : (z : Int) ≤ l.length := by have := HY.1; omega
            have hz0 : (0 : Int) ≤ (z : Int) := by omega
            have hkn : ¬ ((q : Int) + 1 = ((q + 1 + VN : Nat) : Int)) := by omega
            have hkb : ((q : Int) + 1 == ((q + 1 + VN : Nat) : Int)) = false := by simp; omega
            have hk1 : (0 : Int) ≤ (q : Int) + 1 := by omega
            have hk2 : (q : Int) + 1 < ((q + 1 + VN : Nat) : Int) := by omega
            have HRS : Hid ((∃ ts2, scanP (l.take z ++ [32] ++ m) = .ok ts2) → parseP (l.take z ++ [32] ++ m) = .err 41 n) := HY.2 m
            have HTX : Hid ((⟨l.toArray⟩ : ByteArray).extract 0 z ++ ⟨#[32]⟩ ++ ⟨m.toArray⟩ = ⟨(l.take z ++ [32] ++ m).toArray⟩) := by
              show _ = _
              rw [S_front2, show (⟨#[32]⟩ : ByteArray) = ⟨([32] : List UInt8).toArray⟩ from rfl, S_app2, S_app2]
            have HSC : Hid (∀ w, Calls Tryz.prog 16 #[.string ((⟨l.toArray⟩ : ByteArray).extract 0 z ++ ⟨#[32]⟩ ++ ⟨m.toArray⟩)] w (Lx.ScanPost (scanP (l.take z ++ [32] ++ m)) w)) := by
              show ∀ w, _
              intro w
              rw [HTX.out]
              exact Lx.scan_any _ w
            have HPA : Hid (∀ w, GlobAt w → Calls Tryz.prog 11 #[.string ((⟨l.toArray⟩ : ByteArray).extract 0 z ++ ⟨#[32]⟩ ++ ⟨m.toArray⟩)] w (ParsePost (parseP (l.take z ++ [32] ++ m)) w)) := by
              show ∀ w, _
              intro w hG
              rw [HTX.out]
              exact parse_any _ w hG
            have HLX : Hid (∀ r i, scanP (l.take z ++ [32] ++ m) = .err r i → parseP (l.take z ++ [32] ++ m) = .err r i ∧ r ≠ 0) := by
              show ∀ r i, _
              intro r i hr
              exact ⟨by unfold parseP; rw [hr], fault_nonzero hr⟩
            clear HY hqt hv0 hvs
            generalize scanP (l.take z ++ [32] ++ m) = R5 at *
            generalize parseP (l.take z ++ [32] ++ m) = R6 at *
            go_wp2_with fail
            refine (HSC.out _).mono ?_
            cases R5 with
            | err r i =>
              obtain ⟨h6, h7⟩ := HLX.out r i rfl
              subst h6
              rintro e w6 ⟨rfl, hB⟩
              have HB6 : Hid (Below w.heap.size w w6) := HBW.out.trans (hB.mono HBW.out.size)
              have r1 : (r != 0) = true := by simp [h7]
              clear hB h7
              go_wp2_with fail
              refine (HPA.out _ (HG.out.below HB6.out)).mono ?_
              rintro e w7 ⟨rfl, hB⟩
              have HB7 : Hid (Below w.heap.size w (w7.alloc (.cells #[.int .i64 0, .string ⟨#[]⟩, .int .i64 0, .int .i64 0, .slice none 0 0] 29))) := (HB6.out.trans (hB.mono HB6.out.size)).alloc (HB6.out.trans (hB.mono HB6.out.size)).size _
              clear hB
              unfold kidV
              go_wp2
              go_ret
              exact ⟨rfl, HB7.out⟩
            | ok ts2 =>
              have h6 := HRS.out ⟨ts2, rfl⟩
              subst h6
              rintro e w6 ⟨g6, cap6, rfl, ho, hB⟩
              have HB6 : Hid (Below w.heap.size w w6) := HBW.out.trans (hB.mono HBW.out.size)
              clear hB ho
              go_wp2_with fail
              refine (HPA.out _ (HG.out.below HB6.out)).mono ?_
              rintro e w7 ⟨rfl, hB⟩
              have HB7 : Hid (Below w.heap.size w (w7.alloc (.cells #[.int .i64 0, .string ⟨#[]⟩, .int .i64 0, .int .i64 0, .slice none 0 0] 29))) := (HB6.out.trans (hB.mono HB6.out.size)).alloc (HB6.out.trans (hB.mono HB6.out.size)).size _
              clear hB
              unfold kidV
              go_wp2
              go_ret
              exact ⟨rfl, HB7.out⟩
        · rw [hcu]
          rintro e w4 ⟨v8, rfl, hT, hB⟩
          obtain ⟨k8, n8, m8, a8, ks8⟩ := t
          obtain ⟨sl, rfl, hL⟩ := treeAt_node.1 hT
          obtain ⟨o8, l8, c8, rfl⟩ := hL.shape
          have HBY : Hid (Below w2.heap.size w2 (w4.alloc (.cells #[.int .i64 k8, .string ⟨n8.toArray⟩, .int .i64 m8, .int .i64 a8, .slice o8 l8 c8] 29))) := (HBR.out.trans (hB.mono HBR.out.size)).alloc (HBR.out.trans (hB.mono HBR.out.size)).size _
          have HBY4 : Hid (Below w2.heap.size w2 w4) := HBR.out.trans (hB.mono HBR.out.size)
          clear hB hT hL hcu hc
          unfold kidV
          have HBW : Hid (Below w.heap.size w (w4.alloc (.cells #[.int .i64 k8, .string ⟨n8.toArray⟩, .int .i64 m8, .int .i64 a8, .slice o8 l8 c8] 29))) := HB2.out.trans (HBY.out.mono HB2.out.size)
          by_cases hv0 : VN = 0
          · subst hv0
            go_wp2
            go_ret
            exact ⟨rfl, HBW.out⟩
          · obtain ⟨y, ys, hvs⟩ : ∃ y ys, vs = y :: ys := by
              cases hvs : vs with
              | nil => rw [hvs] at HKV; exact absurd HKV.out.2.symm hv0
              | cons y ys => exact ⟨y, ys, rfl⟩
            have HY := HREST.out y ys hvs
            have hqt : q + 1 < (us ++ v :: vs).length := by have := HL.out; omega
            have hyc : (w4.alloc (.cells #[.int .i64 k8, .string ⟨n8.toArray⟩, .int .i64 m8, .int .i64 a8, .slice o8 l8 c8] 29)).cell? ⟨g, (q + 1) * 4 + 3, none⟩ = some (.int .i64 y.at_) := by
              rw [(cells_same (HBY.out.block g HGL.out) _).1, HTP.out (q + 1) hqt]
              have : (us ++ v :: vs)[q + 1] = y := by
                subst hvs
                rw [List.getElem_append_right (by have := HKV.out.1; omega)]
                simp [HKV.out.1]
              rw [this]
            generalize y.at_ = z at HY hyc
            have hg4 : g < w4.heap.size := Nat.lt_of_lt_of_le HGL.out HBY4.out.size
            have hgn : ¬ g = w4.heap.size := by omega
            have hy4 : w4.cell? ⟨g, (q + 1) * 4 + 3, none⟩ = some (.int .i64 z) := by rw [← hyc]; exact (World.cell?_alloc_lt _ _ _ hg4).symm
            clear hyc
            have hz1 : (z : Int) ≤ l.length := by have := HY.1; omega
            have hz0 : (0 : Int) ≤ (z : Int) := by omega
            have hkn : ¬ ((q : Int) + 1 = ((q + 1 + VN : Nat) : Int)) := by omega
            have hkb : ((q : Int) + 1 == ((q + 1 + VN : Nat) : Int)) = false := by simp; omega
            have hk1 : (0 : Int) ≤ (q : Int) + 1 := by omega
            have hk2 : (q : Int) + 1 < ((q + 1 + VN : Nat) : Int) := by omega
            have HRS : Hid ((∃ ts2, scanP (l.take z ++ [32] ++ m) = .ok ts2) → parseP (l.take z ++ [32] ++ m) = .err 41 n) := HY.2 m
            have HTX : Hid ((⟨l.toArray⟩ : ByteArray).extract 0 z ++ ⟨#[32]⟩ ++ ⟨m.toArray⟩ = ⟨(l.take z ++ [32] ++ m).toArray⟩) := by
              show _ = _
              rw [S_front2, show (⟨#[32]⟩ : ByteArray) = ⟨([32] : List UInt8).toArray⟩ from rfl, S_app2, S_app2]
            have HSC : Hid (∀ w, Calls Tryz.prog 16 #[.string ((⟨l.toArray⟩ : ByteArray).extract 0 z ++ ⟨#[32]⟩ ++ ⟨m.toArray⟩)] w (Lx.ScanPost (scanP (l.take z ++ [32] ++ m)) w)) := by
              show ∀ w, _
              intro w
              rw [HTX.out]
              exact Lx.scan_any _ w
            have HPA : Hid (∀ w, GlobAt w → Calls Tryz.prog 11 #[.string ((⟨l.toArray⟩ : ByteArray).extract 0 z ++ ⟨#[32]⟩ ++ ⟨m.toArray⟩)] w (ParsePost (parseP (l.take z ++ [32] ++ m)) w)) := by
              show ∀ w, _
              intro w hG
              rw [HTX.out]
              exact parse_any _ w hG
            have HLX : Hid (∀ r i, scanP (l.take z ++ [32] ++ m) = .err r i → parseP (l.take z ++ [32] ++ m) = .err r i ∧ r ≠ 0) := by
              show ∀ r i, _
              intro r i hr
              exact ⟨by unfold parseP; rw [hr], fault_nonzero hr⟩
            clear HY hqt hv0 hvs
            generalize scanP (l.take z ++ [32] ++ m) = R5 at *
            generalize parseP (l.take z ++ [32] ++ m) = R6 at *
            go_wp2_with fail
            refine (HSC.out _).mono ?_
            cases R5 with
            | err r i =>
              obtain ⟨h6, h7⟩ := HLX.out r i rfl
              subst h6
              rintro e w6 ⟨rfl, hB⟩
              have HB6 : Hid (Below w.heap.size w w6) := HBW.out.trans (hB.mono HBW.out.size)
              have r1 : (r != 0) = true := by simp [h7]
              clear hB h7
              go_wp2_with fail
              refine (HPA.out _ (HG.out.below HB6.out)).mono ?_
              rintro e w7 ⟨rfl, hB⟩
              have HB7 : Hid (Below w.heap.size w (w7.alloc (.cells #[.int .i64 0, .string ⟨#[]⟩, .int .i64 0, .int .i64 0, .slice none 0 0] 29))) := (HB6.out.trans (hB.mono HB6.out.size)).alloc (HB6.out.trans (hB.mono HB6.out.size)).size _
              clear hB
              unfold kidV
              go_wp2
              go_ret
              exact ⟨rfl, HB7.out⟩
            | ok ts2 =>
              have h6 := HRS.out ⟨ts2, rfl⟩
              subst h6
              rintro e w6 ⟨g6, cap6, rfl, ho, hB⟩
              have HB6 : Hid (Below w.heap.size w w6) := HBW.out.trans (hB.mono HBW.out.size)
              clear hB ho
              go_wp2_with fail
              refine (HPA.out _ (HG.out.below HB6.out)).mono ?_
              rintro e w7 ⟨rfl, hB⟩
              have HB7 : Hid (Below w.heap.size w (w7.alloc (.cells #[.int .i64 0, .string ⟨#[]⟩, .int .i64 0, .int .i64 0, .slice none 0 0] 29))) := (HB6.out.trans (hB.mono HB6.out.size)).alloc (HB6.out.trans (hB.mono HB6.out.size)).size _
              clear hB
              unfold kidV
              go_wp2
              go_ret
              exact ⟨rfl, HB7.out⟩)
set_option maxRecDepth 4000 in
set_option maxHeartbeats 4000000 in
theorem sp_tok42 (l m : List UInt8) (w : World) (hG : GlobAt w) (hl : l.length ≤ 9223372036854775807) (hm : m.length ≤ 9223372036854775807) (h : guardP l m ≤ 2147483647) (us : List Tok) (v : Tok) (vs : List Tok) (hs : scanP l = .ok (us ++ v :: vs)) (n : Nat) (hp : parseP l = .err 42 n)
    (hn : v.at_ = n) (hus : ∀ x ∈ us, x.at_ ≠ n) (hnl : n ≤ l.length) (hcut : parseP (l.take n) = .err 40 n ∨ ∃ t, parseP (l.take n) = .ok t)
    (hrest : ∀ y ys, vs = y :: ys → y.at_ ≤ l.length ∧ ∀ rest : List UInt8, (∃ ts2, scanP (l.take y.at_ ++ [32] ++ rest) = .ok ts2) → parseP (l.take y.at_ ++ [32] ++ rest) = .err 42 n) :
    Calls Tryz.prog 7 #[.string ⟨l.toArray⟩, .string ⟨m.toArray⟩] w fun e w' => e = .returned (.bool true) ∧ Below w.heap.size w w' := by
  have HGR : Hid (Grd l m) := grd hl hm
  have h1 : ¬ (2147483647 : Int) < (guardP l m : Nat) := by omega
  have h2 : decide ((2147483647 : Int) < (guardP l m : Nat)) = false := by simp; omega
  have HA : Hid (Calls Tryz.prog 10 #[] w (fun e w' => e = .returned (.bool true) ∧ Below w.heap.size w w')) := awake_any w hG
  have HS : Hid (∀ w, Calls Tryz.prog 16 #[.string ⟨l.toArray⟩] w (Lx.ScanPost (.ok (us ++ v :: vs)) w)) := by
    show ∀ w, _
    intro w
    have := Lx.scan_any l w
    rw [hs] at this
    exact this
  have HP : Hid (∀ w, GlobAt w → Calls Tryz.prog 11 #[.string ⟨l.toArray⟩] w (ParsePost (.err 42 n) w)) := by
    show ∀ w, _
    intro w hG
    have := parse_any l w hG
    rw [hp] at this
    exact this
  have HC : Hid (∀ w, GlobAt w → Calls Tryz.prog 11 #[.string ((⟨l.toArray⟩ : ByteArray).extract 0 n)] w (ParsePost (parseP (l.take n)) w)) := by
    show ∀ w, _
    intro w hG
    rw [S_front2]
    exact parse_any _ w hG
  have HCUT : Hid (parseP (l.take n) = .err 40 n ∨ ∃ t, parseP (l.take n) = .ok t) := hcut
  have hsm := guard_small h
  have HREST : Hid (∀ y ys, vs = y :: ys → y.at_ ≤ l.length ∧ ∀ rest : List UInt8, (∃ ts2, scanP (l.take y.at_ ++ [32] ++ rest) = .ok ts2) → parseP (l.take y.at_ ++ [32] ++ rest) = .err 42 n) := hrest
  have HG : Hid (GlobAt w) := hG
  have HT16 : Hid ((us ++ v :: vs).length ≤ 16001) := (scan_ok hs).2.1
  obtain ⟨K, hK⟩ : ∃ K, us.length = K := ⟨_, rfl⟩
  obtain ⟨VN, hVN⟩ : ∃ x, vs.length = x := ⟨_, rfl⟩
  have HL : Hid ((us ++ v :: vs).length = K + 1 + VN) := by show _ = _; simp; omega
  have HKV : Hid (us.length = K ∧ vs.length = VN) := ⟨hK, hVN⟩
  have HUS : Hid (∀ j (hj : j < (us ++ v :: vs).length), j < K → ¬ ((us ++ v :: vs)[j]).at_ = n) := by
    show ∀ j hj, _
    intro j hj hjk
    rw [List.getElem_append_left (by omega)]
    exact hus _ (List.getElem_mem _)
  have HV : Hid (∀ (hj : K < (us ++ v :: vs).length), ((us ++ v :: vs)[K]).at_ = n) := by
    show ∀ hj, _
    intro hj
    rw [List.getElem_append_right (by omega)]
    simp [hK, hn]
  have hkv : K + 1 + VN ≤ 16001 := by rw [← HL.out]; exact HT16.out
  have hkv' : (K : Int) + 1 + (VN : Int) ≤ 16001 := by omega
  have hnl' : (n : Int) ≤ l.length := by omega
  have hn0 : (0 : Int) ≤ (n : Int) := by omega
  have hll : (l.length : Int) ≤ 2147483647 := by omega
  have hml : (m.length : Int) ≤ 2147483647 := by omega
  have x0 := ext0
  have x1 := ext1
  have x2 := ext2
  clear h hl hm hG hs hp hcut hrest hK hVN hus hn
  first | (
    go_enter Tryz.func7, Tryz.ntmps7
    go_wp2_with (first | (go_at_call_of 8 (Value.int .i64 (l.length : Int)); refine (HGR.out.a _).mono ?_; rintro e wi ⟨rfl, hwi⟩; rw [hwi]; clear hwi wi) | (go_at_call_of 8 (Value.int .i64 (m.length : Int)); refine (HGR.out.b _).mono ?_; rintro e wi ⟨rfl, hwi⟩; rw [hwi]; clear hwi wi) | (go_at_call 9; refine (HGR.out.c _).mono ?_; rintro e wi ⟨rfl, hwi⟩; rw [hwi]; clear hwi wi) | (go_at_call 8; refine (HGR.out.d _).mono ?_; rintro e wi ⟨rfl, hwi⟩; rw [hwi]; clear hwi wi))
    clear h1 h2
    refine HA.out.mono ?_
    rintro e w1 ⟨rfl, hB⟩
    have HB1 : Hid (Below w.heap.size w w1) := hB
    clear hB
    go_wp2_with fail
    refine (HS.out _).mono ?_
    rintro e w2 ⟨g, cap, rfl, ho, hB⟩
    have HB2 : Hid (Below w.heap.size w w2) := HB1.out.trans (hB.mono HB1.out.size)
    have HTP : Hid (∀ j (hj : j < (us ++ v :: vs).length), w2.cell? ⟨g, j * 4 + 3, none⟩ = some (.int .i64 ((us ++ v :: vs)[j]).at_)) := fun j hj => tok_place ho j hj
    have HGL : Hid (g < w2.heap.size) := (ho.lt g rfl).2
    clear hB ho
    rw [HL.out]
    go_wp2_with fail
    refine (HP.out _ (HG.out.below HB2.out)).mono ?_
    rintro e w3 ⟨rfl, hB⟩
    have HBX : Hid (Below w2.heap.size w2 (w3.alloc (.cells #[.int .i64 0, .string ⟨#[]⟩, .int .i64 0, .int .i64 0, .slice none 0 0] 29))) := hB.alloc hB.size _
    clear hB
    unfold kidV
    go_wp2_with fail
    generalize w3.alloc (.cells #[.int .i64 0, .string ⟨#[]⟩, .int .i64 0, .int .i64 0, .slice none 0 0] 29) = wx at *
    go_loopw [12] (fun i wr => ∃ (q : Nat), i = .int .i64 q ∧ q ≤ K ∧ Hid (Below w2.heap.size w2 wr)) (fun i _ => K - (intOf i).toNat)
    case atStart => exact ⟨0, rfl, by omega, HBX⟩
    case round =>
      obtain ⟨q, rfl, hq, HBR⟩ := hrel
      have hqt : q < (us ++ v :: vs).length := by have := HL.out; omega
      have hqi : (q : Int) < ((K + 1 + VN : Nat) : Int) := by omega
      have hq0 : (0 : Int) ≤ (q : Int) := by omega
      have hqm : (q : Int) ≤ 20000 := by omega
      have hc : wr.cell? ⟨g, q * 4 + 3, none⟩ = some (.int .i64 ((us ++ v :: vs)[q]).at_) := by
        rw [(cells_same (HBR.out.block g HGL.out) _).1]
        exact HTP.out q hqt
      by_cases hlt : q < K
      · have hne := HUS.out q hqt hlt
        generalize ((us ++ v :: vs)[q]).at_ = z at hc hne
        have hne' : ¬ ((z : Int) = (n : Int)) := by omega
        have hneb : ((z : Int) != (n : Int)) = true := by simp; omega
        have HLT : Hid (q < K) := hlt
        clear hne hqt
        go_wp2
        go_roundw
        case rel => exact ⟨q + 1, by go_num, HLT.out, HBR⟩
        case measure => have := HLT.out; simp [intOf]; omega
      · have hqk : q = K := by omega
        subst hqk
        rw [HV.out hqt] at hc
        have hneb : ((n : Int) != (n : Int)) = false := by simp
        have hkq : ¬ ((q : Int) = ((q + 1 + VN : Nat) : Int)) := by omega
        have hkb : ((q : Int) == ((q + 1 + VN : Nat) : Int)) = false := by simp; omega
        clear hqt
        go_wp2_with fail
        have HBWR : Hid (Below w.heap.size w wr) := HB2.out.trans (HBR.out.mono HB2.out.size)
        refine (HC.out _ (HG.out.below HBWR.out)).mono ?_
        rcases HCUT.out with hcu | ⟨t, hcu⟩
        · rw [hcu]
          rintro e w4 ⟨rfl, hB⟩
          have HBY : Hid (Below w2.heap.size w2 (w4.alloc (.cells #[.int .i64 0, .string ⟨#[]⟩, .int .i64 0, .int .i64 0, .slice none 0 0] 29))) := (HBR.out.trans (hB.mono HBR.out.size)).alloc (HBR.out.trans (hB.mono HBR.out.size)).size _
          have HBY4 : Hid (Below w2.heap.size w2 w4) := HBR.out.trans (hB.mono HBR.out.size)
          clear hB hcu hc
          unfold kidV
          have HBW : Hid (Below w.heap.size w (w4.alloc (.cells #[.int .i64 0, .string ⟨#[]⟩, .int .i64 0, .int .i64 0, .slice none 0 0] 29))) := HB2.out.trans (HBY.out.mono HB2.out.size)
          by_cases hv0 : VN = 0
          · subst hv0
            go_wp2
            go_ret
            exact ⟨rfl, HBW.out⟩
          · obtain ⟨y, ys, hvs⟩ : ∃ y ys, vs = y :: ys := by
              cases hvs : vs with
              | nil => rw [hvs] at HKV; exact absurd HKV.out.2.symm hv0
              | cons y ys => exact ⟨y, ys, rfl⟩
            have HY := HREST.out y ys hvs
            have hqt : q + 1 < (us ++ v :: vs).length := by have := HL.out; omega
            have hyc : (w4.alloc (.cells #[.int .i64 0, .string ⟨#[]⟩, .int .i64 0, .int .i64 0, .slice none 0 0] 29)).cell? ⟨g, (q + 1) * 4 + 3, none⟩ = some (.int .i64 y.at_) := by
              rw [(cells_same (HBY.out.block g HGL.out) _).1, HTP.out (q + 1) hqt]
              have : (us ++ v :: vs)[q + 1] = y := by
                subst hvs
                rw [List.getElem_append_right (by have := HKV.out.1; omega)]
                simp [HKV.out.1]
              rw [this]
            generalize y.at_ = z at HY hyc
            have hg4 : g < w4.heap.size := Nat.lt_of_lt_of_le HGL.out HBY4.out.size
            have hgn : ¬ g = w4.heap.size := by omega
            have hy4 : w4.cell? ⟨g, (q + 1) * 4 + 3, none⟩ = some (.int .i64 z) := by rw [← hyc]; exact (World.cell?_alloc_lt _ _ _ hg4).symm
            clear hyc
            have hz1 : (z : Int) ≤ l.length := by have := HY.1; omega
            have hz0 : (0 : Int) ≤ (z : Int) := by omega
            have hkn : ¬ ((q : Int) + 1 = ((q + 1 + VN : Nat) : Int)) := by omega
            have hkb : ((q : Int) + 1 == ((q + 1 + VN : Nat) : Int)) = false := by simp; omega
            have hk1 : (0 : Int) ≤ (q : Int) + 1 := by omega
            have hk2 : (q : Int) + 1 < ((q + 1 + VN : Nat) : Int) := by omega
            have HRS : Hid ((∃ ts2, scanP (l.take z ++ [32] ++ m) = .ok ts2) → parseP (l.take z ++ [32] ++ m) = .err 42 n) := HY.2 m
            have HTX : Hid ((⟨l.toArray⟩ : ByteArray).extract 0 z ++ ⟨#[32]⟩ ++ ⟨m.toArray⟩ = ⟨(l.take z ++ [32] ++ m).toArray⟩) := by
              show _ = _
              rw [S_front2, show (⟨#[32]⟩ : ByteArray) = ⟨([32] : List UInt8).toArray⟩ from rfl, S_app2, S_app2]
            have HSC : Hid (∀ w, Calls Tryz.prog 16 #[.string ((⟨l.toArray⟩ : ByteArray).extract 0 z ++ ⟨#[32]⟩ ++ ⟨m.toArray⟩)] w (Lx.ScanPost (scanP (l.take z ++ [32] ++ m)) w)) := by
              show ∀ w, _
              intro w
              rw [HTX.out]
              exact Lx.scan_any _ w
            have HPA : Hid (∀ w, GlobAt w → Calls Tryz.prog 11 #[.string ((⟨l.toArray⟩ : ByteArray).extract 0 z ++ ⟨#[32]⟩ ++ ⟨m.toArray⟩)] w (ParsePost (parseP (l.take z ++ [32] ++ m)) w)) := by
              show ∀ w, _
              intro w hG
              rw [HTX.out]
              exact parse_any _ w hG
            have HLX : Hid (∀ r i, scanP (l.take z ++ [32] ++ m) = .err r i → parseP (l.take z ++ [32] ++ m) = .err r i ∧ r ≠ 0) := by
              show ∀ r i, _
              intro r i hr
              exact ⟨by unfold parseP; rw [hr], fault_nonzero hr⟩
            clear HY hqt hv0 hvs
            generalize scanP (l.take z ++ [32] ++ m) = R5 at *
            generalize parseP (l.take z ++ [32] ++ m) = R6 at *
            go_wp2_with fail
            refine (HSC.out _).mono ?_
            cases R5 with
            | err r i =>
              obtain ⟨h6, h7⟩ := HLX.out r i rfl
              subst h6
              rintro e w6 ⟨rfl, hB⟩
              have HB6 : Hid (Below w.heap.size w w6) := HBW.out.trans (hB.mono HBW.out.size)
              have r1 : (r != 0) = true := by simp [h7]
              clear hB h7
              go_wp2_with fail
              refine (HPA.out _ (HG.out.below HB6.out)).mono ?_
              rintro e w7 ⟨rfl, hB⟩
              have HB7 : Hid (Below w.heap.size w (w7.alloc (.cells #[.int .i64 0, .string ⟨#[]⟩, .int .i64 0, .int .i64 0, .slice none 0 0] 29))) := (HB6.out.trans (hB.mono HB6.out.size)).alloc (HB6.out.trans (hB.mono HB6.out.size)).size _
              clear hB
              unfold kidV
              go_wp2
              go_ret
              exact ⟨rfl, HB7.out⟩
            | ok ts2 =>
              have h6 := HRS.out ⟨ts2, rfl⟩
              subst h6
              rintro e w6 ⟨g6, cap6, rfl, ho, hB⟩
              have HB6 : Hid (Below w.heap.size w w6) := HBW.out.trans (hB.mono HBW.out.size)
              clear hB ho
              go_wp2_with fail
              refine (HPA.out _ (HG.out.below HB6.out)).mono ?_
              rintro e w7 ⟨rfl, hB⟩
              have HB7 : Hid (Below w.heap.size w (w7.alloc (.cells #[.int .i64 0, .string ⟨#[]⟩, .int .i64 0, .int .i64 0, .slice none 0 0] 29))) := (HB6.out.trans (hB.mono HB6.out.size)).alloc (HB6.out.trans (hB.mono HB6.out.size)).size _
              clear hB
              unfold kidV
              go_wp2
              go_ret
              exact ⟨rfl, HB7.out⟩
        · rw [hcu]
          rintro e w4 ⟨v8, rfl, hT, hB⟩
          obtain ⟨k8, n8, m8, a8, ks8⟩ := t
          obtain ⟨sl, rfl, hL⟩ := treeAt_node.1 hT
          obtain ⟨o8, l8, c8, rfl⟩ := hL.shape
          have HBY : Hid (Below w2.heap.size w2 (w4.alloc (.cells #[.int .i64 k8, .string ⟨n8.toArray⟩, .int .i64 m8, .int .i64 a8, .slice o8 l8 c8] 29))) := (HBR.out.trans (hB.mono HBR.out.size)).alloc (HBR.out.trans (hB.mono HBR.out.size)).size _
          have HBY4 : Hid (Below w2.heap.size w2 w4) := HBR.out.trans (hB.mono HBR.out.size)
          clear hB hT hL hcu hc
          unfold kidV
          have HBW : Hid (Below w.heap.size w (w4.alloc (.cells #[.int .i64 k8, .string ⟨n8.toArray⟩, .int .i64 m8, .int .i64 a8, .slice o8 l8 c8] 29))) := HB2.out.trans (HBY.out.mono HB2.out.size)
          by_cases hv0 : VN = 0
          · subst hv0
            go_wp2
            go_ret
            exact ⟨rfl, HBW.out⟩
          · obtain ⟨y, ys, hvs⟩ : ∃ y ys, vs = y :: ys := by
              cases hvs : vs with
              | nil => rw [hvs] at HKV; exact absurd HKV.out.2.symm hv0
              | cons y ys => exact ⟨y, ys, rfl⟩
            have HY := HREST.out y ys hvs
            have hqt : q + 1 < (us ++ v :: vs).length := by have := HL.out; omega
            have hyc : (w4.alloc (.cells #[.int .i64 k8, .string ⟨n8.toArray⟩, .int .i64 m8, .int .i64 a8, .slice o8 l8 c8] 29)).cell? ⟨g, (q + 1) * 4 + 3, none⟩ = some (.int .i64 y.at_) := by
              rw [(cells_same (HBY.out.block g HGL.out) _).1, HTP.out (q + 1) hqt]
              have : (us ++ v :: vs)[q + 1] = y := by
                subst hvs
                rw [List.getElem_append_right (by have := HKV.out.1; omega)]
                simp [HKV.out.1]
              rw [this]
            generalize y.at_ = z at HY hyc
            have hg4 : g < w4.heap.size := Nat.lt_of_lt_of_le HGL.out HBY4.out.size
            have hgn : ¬ g = w4.heap.size := by omega
            have hy4 : w4.cell? ⟨g, (q + 1) * 4 + 3, none⟩ = some (.int .i64 z) := by rw [← hyc]; exact (World.cell?_alloc_lt _ _ _ hg4).symm
            clear hyc
            have hz1 : (z : Int) ≤ l.length := by have := HY.1; omega
            have hz0 : (0 : Int) ≤ (z : Int) := by omega
            have hkn : ¬ ((q : Int) + 1 = ((q + 1 + VN : Nat) : Int)) := by omega
            have hkb : ((q : Int) + 1 == ((q + 1 + VN : Nat) : Int)) = false := by simp; omega
            have hk1 : (0 : Int) ≤ (q : Int) + 1 := by omega
            have hk2 : (q : Int) + 1 < ((q + 1 + VN : Nat) : Int) := by omega
            have HRS : Hid ((∃ ts2, scanP (l.take z ++ [32] ++ m) = .ok ts2) → parseP (l.take z ++ [32] ++ m) = .err 42 n) := HY.2 m
            have HTX : Hid ((⟨l.toArray⟩ : ByteArray).extract 0 z ++ ⟨#[32]⟩ ++ ⟨m.toArray⟩ = ⟨(l.take z ++ [32] ++ m).toArray⟩) := by
              show _ = _
              rw [S_front2, show (⟨#[32]⟩ : ByteArray) = ⟨([32] : List UInt8).toArray⟩ from rfl, S_app2, S_app2]
            have HSC : Hid (∀ w, Calls Tryz.prog 16 #[.string ((⟨l.toArray⟩ : ByteArray).extract 0 z ++ ⟨#[32]⟩ ++ ⟨m.toArray⟩)] w (Lx.ScanPost (scanP (l.take z ++ [32] ++ m)) w)) := by
              show ∀ w, _
              intro w
              rw [HTX.out]
              exact Lx.scan_any _ w
            have HPA : Hid (∀ w, GlobAt w → Calls Tryz.prog 11 #[.string ((⟨l.toArray⟩ : ByteArray).extract 0 z ++ ⟨#[32]⟩ ++ ⟨m.toArray⟩)] w (ParsePost (parseP (l.take z ++ [32] ++ m)) w)) := by
              show ∀ w, _
              intro w hG
              rw [HTX.out]
              exact parse_any _ w hG
            have HLX : Hid (∀ r i, scanP (l.take z ++ [32] ++ m) = .err r i → parseP (l.take z ++ [32] ++ m) = .err r i ∧ r ≠ 0) := by
              show ∀ r i, _
              intro r i hr
              exact ⟨by unfold parseP; rw [hr], fault_nonzero hr⟩
            clear HY hqt hv0 hvs
            generalize scanP (l.take z ++ [32] ++ m) = R5 at *
            generalize parseP (l.take z ++ [32] ++ m) = R6 at *
            go_wp2_with fail
            refine (HSC.out _).mono ?_
            cases R5 with
            | err r i =>
              obtain ⟨h6, h7⟩ := HLX.out r i rfl
              subst h6
              rintro e w6 ⟨rfl, hB⟩
              have HB6 : Hid (Below w.heap.size w w6) := HBW.out.trans (hB.mono HBW.out.size)
              have r1 : (r != 0) = true := by simp [h7]
              clear hB h7
              go_wp2_with fail
              refine (HPA.out _ (HG.out.below HB6.out)).mono ?_
              rintro e w7 ⟨rfl, hB⟩
              have HB7 : Hid (Below w.heap.size w (w7.alloc (.cells #[.int .i64 0, .string ⟨#[]⟩, .int .i64 0, .int .i64 0, .slice none 0 0] 29))) := (HB6.out.trans (hB.mono HB6.out.size)).alloc (HB6.out.trans (hB.mono HB6.out.size)).size _
              clear hB
              unfold kidV
              go_wp2
              go_ret
              exact ⟨rfl, HB7.out⟩
            | ok ts2 =>
              have h6 := HRS.out ⟨ts2, rfl⟩
              subst h6
              rintro e w6 ⟨g6, cap6, rfl, ho, hB⟩
              have HB6 : Hid (Below w.heap.size w w6) := HBW.out.trans (hB.mono HBW.out.size)
              clear hB ho
              go_wp2_with fail
              refine (HPA.out _ (HG.out.below HB6.out)).mono ?_
              rintro e w7 ⟨rfl, hB⟩
              have HB7 : Hid (Below w.heap.size w (w7.alloc (.cells #[.int .i64 0, .string ⟨#[]⟩, .int .i64 0, .int .i64 0, .slice none 0 0] 29))) := (HB6.out.trans (hB.mono HB6.out.size)).alloc (HB6.out.trans (hB.mono HB6.out.size)).size _
              clear hB
              unfold kidV
              go_wp2
              go_ret
              exact ⟨rfl, HB7.out⟩)
theorem fault_range {l : List UInt8} {e : Int} {i : Nat} (h : scanP l = .err e i) : 30 ≤ e ∧ e < 40 := by
  rcases Nat.lt_or_ge 16000 l.length with h1 | h1
  · unfold scanP at h; rw [if_pos h1] at h; cases h; decide
  · obtain ⟨us, _, _, hs⟩ := fault_reach h h1
    rcases fault_kinds hs with rfl | rfl | rfl | rfl <;> decide
theorem sp_any (l m : List UInt8) (w : World) (hG : GlobAt w) (hl : l.length ≤ 9223372036854775807) (hm : m.length ≤ 9223372036854775807) : Calls Tryz.prog 7 #[.string ⟨l.toArray⟩, .string ⟨m.toArray⟩] w fun e w' => e = .returned (.bool true) ∧ Below w.heap.size w w' := by
  by_cases hg : guardP l m ≤ 2147483647
  case neg => exact sp_more l m w hl hm hg
  cases hs : scanP l with
  | err r i => exact sp_lex l m w hG hl hm hg r i hs (fault_range hs)
  | ok ts =>
    cases hp : sourceP 102 [] ⟨ts, false⟩ with
    | ok ks st => exact sp_ok l m w hG hl hm hg ts hs (.node 1 [] 0 0 ks) (by unfold parseP; rw [hs]; show (match sourceP 102 [] _ with | .ok ks _ => PRes.ok (.node 1 [] 0 0 ks) | .no e i => .err e i) = _; rw [hp])
    | no e n =>
      have hpp : parseP l = .err e n := by unfold parseP; rw [hs]; show (match sourceP 102 [] _ with | .ok ks _ => PRes.ok (.node 1 [] 0 0 ks) | .no e i => .err e i) = _; rw [hp]
      obtain ⟨us, v, vs, rfl, h1, h2, h3, h4, h5, h6⟩ := places hs hp
      rcases h3 with rfl | rfl | rfl
      · exact sp_tok40 l m w hG hl hm hg us v vs hs n hpp h1 h2 h4 h5 h6
      · exact sp_tok41 l m w hG hl hm hg us v vs hs n hpp h1 h2 h4 h5 h6
      · exact sp_tok42 l m w hG hl hm hg us v vs hs n hpp h1 h2 h4 h5 h6
end Go.Proofs.YteokdknaadckbaaGreatDoor
