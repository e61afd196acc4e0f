/- The program's printer: a number. The program's printer: a constant. The program's printer: a source. The program's Print: what is deferred; the text as a string. The program's Print. Are two trees the same? Are two trees the same? Whole trees. The chapter's example: what its calls answer. -/
import Derived.Test.YteokdknaadckbaaGreatDoorPart16
import Derived.Test.YteokdknaadckbaaGreatDoorPart14
import Derived.Laws.BytesArg
namespace Go.Proofs.YteokdknaadckbaaGreatDoor
open Go.RowKit Go.Lib

def numOk (k : Int) (n : List UInt8) (len : Nat) : Bool := k == 28 && n == [] && len == 0
def numIn (m least : Int) : Bool := decide (least ≤ m) && decide (m ≤ 4294967295)
def pnumP (least : Int) (k : Int) (n : List UInt8) (m : Int) (len : Nat) (txt : List UInt8) : Option (List UInt8) := if numOk k n len && numIn m least then layP [itoa m] txt else none
theorem itoa_some (n : Int) : itoa n ≠ [] := by
  have h : ∀ u, decDigits u ≠ [] := fun u e => by
    have := decDigits_length u
    have h2 := nDigits_pos u
    rw [e] at this
    simp at this
    omega
  unfold itoa
  split
  · exact List.cons_ne_nil _ _
  · exact h _
set_option maxHeartbeats 1000000 in
set_option maxRecDepth 4000 in
theorem pnumber_any (p : Nat) (k : Int) (n : List UInt8) (m a : Int) (o : Option Addr) (len c : Nat) (least : Int) (txt : List UInt8) (d : Int) (v0 : Value) (w : World) (h : PR w p txt d v0) (hx : txt.length ≤ 16000) (hm0 : -9223372036854775808 ≤ m) (hm1 : m ≤ 9223372036854775807)
    (hI : ∀ w1, Below w.heap.size w w1 → Calls Tryz.prog 130 #[.int .i64 m] w1 fun e w' => e = .returned (.string ⟨(itoa m).toArray⟩) ∧ Below w1.heap.size w1 w') :
    Calls Tryz.prog 97 #[.pointer (some ⟨p, 0, none⟩), kidVI k n m a (.slice o len c), .int .i64 least] w (LaidPost p d v0 (pnumP least k n m len txt) w) := by
  have HI : Hid (∀ w1, Below w.heap.size w w1 → Calls Tryz.prog 130 #[.int .i64 m] w1 fun e w' => e = .returned (.string ⟨(itoa m).toArray⟩) ∧ Below w1.heap.size w1 w') := hI
  have HP : Hid (PR w p txt d v0 ∧ txt.length ≤ 16000) := ⟨h, hx⟩
  have HL : Hid ((itoa m).length ≤ 64) := Nat.le_trans (itoa_length_le m hm0 hm1) (by decide)
  clear hI h hx hm0 hm1
  obtain ⟨R, hR⟩ : ∃ R, pnumP least k n m len txt = R := ⟨_, rfl⟩
  rw [hR]
  have HR : Hid (pnumP least k n m len txt = R) := hR
  obtain ⟨wa, hwa⟩ : ∃ x, w.alloc (.cells #[.int .i64 k, .string ⟨n.toArray⟩, .int .i64 m, .int .i64 a, .slice o len c] 29) = x := ⟨_, rfl⟩
  have HB : Hid (Below w.heap.size w wa) := by show Below w.heap.size w wa; rw [← hwa]; exact below_alloc _ _
  have kk : wa.heap[w.heap.size]? = some (kidOI k n m a (.slice o len c)) := by rw [← hwa]; exact heap_alloc_new _ _
  have HK : Hid (wa.heap[w.heap.size]? = some (kidOI k n m a (.slice o len c))) := kk
  obtain ⟨⟨z0, z1, z2, z3, z4⟩, _⟩ := kid_cellsI kk
  unfold kidVI
  clear hR kk
  obtain ⟨E, hE⟩ : ∃ E, (n == []) = E := ⟨_, rfl⟩
  have HE : Hid ((n == []) = E) := hE
  by_cases h1 : k = 28
  · subst h1
    cases E with
    | true =>
      by_cases h2 : len = 0
      · subst h2
        have HOK : Hid (numOk 28 n 0 = true) := by show _ = _; unfold numOk; rw [HE.out]; rfl
        by_cases h3 : least ≤ m
        · have j3 : decide (least ≤ m) = true := by simp [h3]
          by_cases h4 : m ≤ 4294967295
          · have j4 : decide (m ≤ 4294967295) = true := by simp [h4]
            have HR2 : Hid (R = layP [itoa m] txt) := by show _ = _; rw [← HR.out]; unfold pnumP numIn; rw [HOK.out]; simp [h3, h4]
            go_enter Tryz.func97, Tryz.ntmps97
            go_wp2_with (first | (go_at_call 58; refine (must_true _).mono ?_; rintro e wi ⟨rfl, hwi⟩; rw [hwi]; clear hwi wi) | (go_at_call 58; refine (must_false _).mono ?_; rintro e wi ⟨he, hwi⟩; rw [hwi]; clear hwi; unfold treeFault at he; rw [he]; clear he wi) | (go_at_call 130; refine (HI.out _ HB.out).mono ?_; rintro e w2 ⟨rfl, hB2⟩; have HB2 : Hid (Below w.heap.size w w2) := HB.out.trans (hB2.mono HB.out.size); have y2 : w2.cell? ⟨w.heap.size, 2, none⟩ = some (.int .i64 m) := (kid_cellsI (below_blk hB2 HK.out)).1.2.2.1; clear hB2))
            refine (lay_lit p [itoa m] _ rfl (by have hl := HL.out; have hs := itoa_some m; intro t ht; simp at ht; subst ht; exact ⟨hs, hl⟩) (by simp) 1 rfl txt d v0 w2 (HP.out.1.below HB2.out) HP.out.2).mono ?_
            rintro e w9 ⟨v', hk, hQ⟩
            have HK9 : Hid (Lx.Kept p v0 v' w w9) := (Lx.Kept.of_below HB2.out).trans hk
            clear hk
            rcases hQ with ⟨x, hx1, hx2, rfl, hPR⟩ | ⟨hx1, he⟩
            · have HF : Hid (layP [itoa m] txt = some x ∧ x.length ≤ 16000 ∧ PR w9 p x d v') := ⟨hx1, hx2, hPR⟩
              clear hx1 hx2 hPR
              go_wp2
              first | go_end0 | refine bodyPost_ret (results_none rfl _ _ _) rfl ?_
              exact ⟨v', HK9.out, Or.inl ⟨x, HR2.out.trans HF.out.1, HF.out.2.1, rfl, HF.out.2.2⟩⟩
            · have HF : Hid (layP [itoa m] txt = none) := hx1
              clear hx1
              unfold treeFault at he
              subst he
              go_wp2
              exact ⟨rfl, v', HK9.out, Or.inr ⟨HR2.out.trans HF.out, rfl⟩⟩
          · have j4 : decide (m ≤ 4294967295) = false := by simp; omega
            have HIN : Hid ((numOk 28 n 0 && numIn m least) = false) := by show _ = _; unfold numIn; simp [h4]
            have HR2 : Hid (R = none) := by show _ = _; rw [← HR.out]; unfold pnumP; rw [HIN.out]; rfl
            go_enter Tryz.func97, Tryz.ntmps97
            go_wp2_with (first | (go_at_call 58; refine (must_true _).mono ?_; rintro e wi ⟨rfl, hwi⟩; rw [hwi]; clear hwi wi) | (go_at_call 58; refine (must_false _).mono ?_; rintro e wi ⟨he, hwi⟩; rw [hwi]; clear hwi; unfold treeFault at he; rw [he]; clear he wi))
            exact ⟨rfl, v0, Lx.Kept.of_below HB.out, Or.inr ⟨HR2.out, rfl⟩⟩
        · have j3 : decide (least ≤ m) = false := by simp; omega
          have HIN : Hid ((numOk 28 n 0 && numIn m least) = false) := by show _ = _; unfold numIn; simp [h3]
          have HR2 : Hid (R = none) := by show _ = _; rw [← HR.out]; unfold pnumP; rw [HIN.out]; rfl
          go_enter Tryz.func97, Tryz.ntmps97
          go_wp2_with (first | (go_at_call 58; refine (must_true _).mono ?_; rintro e wi ⟨rfl, hwi⟩; rw [hwi]; clear hwi wi) | (go_at_call 58; refine (must_false _).mono ?_; rintro e wi ⟨he, hwi⟩; rw [hwi]; clear hwi; unfold treeFault at he; rw [he]; clear he wi))
          exact ⟨rfl, v0, Lx.Kept.of_below HB.out, Or.inr ⟨HR2.out, rfl⟩⟩
      · have j2 : ((len : Int) == 0) = false := by simp [h2]
        have j2' : ¬ (len : Int) = 0 := by omega
        have HIN : Hid ((numOk 28 n len && numIn m least) = false) := by show _ = _; unfold numOk; simp [h2]
        have HR2 : Hid (R = none) := by show _ = _; rw [← HR.out]; unfold pnumP; rw [HIN.out]; rfl
        go_enter Tryz.func97, Tryz.ntmps97
        go_wp2_with (first | (go_at_call 58; refine (must_true _).mono ?_; rintro e wi ⟨rfl, hwi⟩; rw [hwi]; clear hwi wi) | (go_at_call 58; refine (must_false _).mono ?_; rintro e wi ⟨he, hwi⟩; rw [hwi]; clear hwi; unfold treeFault at he; rw [he]; clear he wi))
        exact ⟨rfl, v0, Lx.Kept.of_below HB.out, Or.inr ⟨HR2.out, rfl⟩⟩
    | false =>
      have HIN : Hid ((numOk 28 n len && numIn m least) = false) := by show _ = _; unfold numOk; rw [HE.out]; simp
      have HR2 : Hid (R = none) := by show _ = _; rw [← HR.out]; unfold pnumP; rw [HIN.out]; rfl
      go_enter Tryz.func97, Tryz.ntmps97
      go_wp2_with (first | (go_at_call 58; refine (must_true _).mono ?_; rintro e wi ⟨rfl, hwi⟩; rw [hwi]; clear hwi wi) | (go_at_call 58; refine (must_false _).mono ?_; rintro e wi ⟨he, hwi⟩; rw [hwi]; clear hwi; unfold treeFault at he; rw [he]; clear he wi))
      exact ⟨rfl, v0, Lx.Kept.of_below HB.out, Or.inr ⟨HR2.out, rfl⟩⟩
  · have j1 : (k == 28) = false := by simp [h1]
    have HIN : Hid ((numOk k n len && numIn m least) = false) := by show _ = _; unfold numOk; simp [h1]
    have HR2 : Hid (R = none) := by show _ = _; rw [← HR.out]; unfold pnumP; rw [HIN.out]; rfl
    go_enter Tryz.func97, Tryz.ntmps97
    go_wp2_with (first | (go_at_call 58; refine (must_true _).mono ?_; rintro e wi ⟨rfl, hwi⟩; rw [hwi]; clear hwi wi) | (go_at_call 58; refine (must_false _).mono ?_; rintro e wi ⟨he, hwi⟩; rw [hwi]; clear hwi; unfold treeFault at he; rw [he]; clear he wi))
    exact ⟨rfl, v0, Lx.Kept.of_below HB.out, Or.inr ⟨HR2.out, rfl⟩⟩
end Go.Proofs.YteokdknaadckbaaGreatDoor
namespace Go.Proofs.YteokdknaadckbaaGreatDoor
open Go.RowKit Go.Lib

/-- what lies ahead of the printer -/
def Front (p : Nat) (w w' : World) : Prop := ∀ b, b < p → w'.heap[b]? = w.heap[b]?
theorem Front.trans {p : Nat} {a b c : World} (h : Front p a b) (k : Front p b c) : Front p a c := fun i hi => (k i hi).trans (h i hi)
theorem Front.of_below {p : Nat} {a b : World} (hp : p ≤ a.heap.size) (h : Below a.heap.size a b) : Front p a b := fun i hi => h.block i (by omega)
theorem own_ge {w : World} {base : Nat} {v : Value} {n : Nat} {xs : List Value} (h : w.ownsRow base 5 1 v n xs) (b : Nat) (hb : b < base) : some b ≠ v.ownBlock := by
  rcases h.2 with ⟨rfl, rfl⟩ | ⟨g, cap, cur, rfl, hbg, hg, _⟩
  · simp [Value.ownBlock]
  · simp [Value.ownBlock]
    omega
theorem PR.front {w w' : World} {p : Nat} {txt : List UInt8} {d : Int} {v v' : Value} (h : PR w p txt d v) (hk : Lx.Kept p v v' w w') : Front p w w' := fun b hb => hk.block b (by have := h.lt; omega) (by omega) (own_ge h.own b (by omega))
/-- the library's texts of the numbers of M -/
def ItoaFor (M : Int → Prop) (p : Nat) (w : World) : Prop := ∀ m, M m → ∀ w1, Front p w w1 → Calls Tryz.prog 130 #[.int .i64 m] w1 fun e w' => e = .returned (.string ⟨(itoa m).toArray⟩) ∧ Below w1.heap.size w1 w'
theorem ItoaFor.front {M : Int → Prop} {p : Nat} {w w' : World} (h : ItoaFor M p w) (hf : Front p w w') : ItoaFor M p w' := fun m hm w1 h1 => h m hm w1 (hf.trans h1)
theorem nameOk_len {n : List UInt8} (h : nameOk n true = true) : n ≠ [] ∧ n.length ≤ 64 := by
  unfold nameOk Lx.isNameP at h
  simp at h
  constructor
  · rintro rfl
    simp at h
  · omega
def pconstP (n : List UInt8) (m : Int) (len : Nat) (k1 : Int) (n1 : List UInt8) (m1 : Int) (l1 : Nat) (txt : List UInt8) : Option (List UInt8) :=
  if nameOk n true && sizeOk len m 1 1 then (layP [[99, 111, 110, 115, 116], n, [61]] txt).bind (pnumP (-2147483648) k1 n1 m1 l1) else none
set_option maxHeartbeats 1000000 in
set_option maxRecDepth 4000 in
theorem pconst_any (p : Nat) (n : List UInt8) (m a : Int) (o : Option Addr) (len c : Nat) (g : Nat) (k1 : Int) (n1 : List UInt8) (m1 a1 : Int) (o1 : Option Addr) (l1 c1 : Nat) (txt : List UInt8) (d : Int) (v0 : Value) (w : World) (h : PR w p txt d v0) (hx : txt.length ≤ 16000) (hn : n.length ≤ maxLen) (hm0 : -9223372036854775808 ≤ m1) (hm1 : m1 ≤ 9223372036854775807)
    (M : Int → Prop) (hM : M m1) (hI : ItoaFor M p w) (hkid : len = 1 → o = some ⟨g, 0, none⟩ ∧ g < p ∧ KidR w g 0 k1 n1 m1 a1 (.slice o1 l1 c1)) :
    Calls Tryz.prog 60 #[.pointer (some ⟨p, 0, none⟩), kidVI 2 n m a (.slice o len c)] w (LaidPost p d v0 (pconstP n m len k1 n1 m1 l1 txt) w) := by
  have HI : Hid (ItoaFor M p w ∧ M m1) := ⟨hI, hM⟩
  have HP : Hid (PR w p txt d v0 ∧ txt.length ≤ 16000) := ⟨h, hx⟩
  have HM : Hid (-9223372036854775808 ≤ m1 ∧ m1 ≤ 9223372036854775807) := ⟨hm0, hm1⟩
  have HKID : Hid (len = 1 → o = some ⟨g, 0, none⟩ ∧ g < p ∧ KidR w g 0 k1 n1 m1 a1 (.slice o1 l1 c1)) := hkid
  obtain ⟨R, hR⟩ : ∃ R, pconstP n m len k1 n1 m1 l1 txt = R := ⟨_, rfl⟩
  rw [hR]
  have HR : Hid (pconstP n m len k1 n1 m1 l1 txt = R) := hR
  obtain ⟨ok, hok⟩ : ∃ ok, (nameOk n true && sizeOk len m 1 1) = ok := ⟨_, rfl⟩
  have HOK : Hid ((nameOk n true && sizeOk len m 1 1) = ok) := hok
  have HMH : Hid (∀ w, Calls Tryz.prog 59 #[kidVI 2 n m a (.slice o len c), .bool true, .int .i64 1, .int .i64 1] w (MustPost ok w)) := by
    show ∀ w, _
    intro w
    rw [← hok]
    exact mustHave_true 2 n m a o len c 1 1 w (by unfold maxLen at hn; omega)
  unfold kidVI at HMH
  clear hI h hx hm0 hm1 hkid hM hok hn hR
  obtain ⟨wa, hwa⟩ : ∃ x, w.alloc (.cells #[.int .i64 2, .string ⟨n.toArray⟩, .int .i64 m, .int .i64 a, .slice o len c] 29) = x := ⟨_, rfl⟩
  have HB : Hid (Below w.heap.size w wa) := by show Below w.heap.size w wa; rw [← hwa]; exact below_alloc _ _
  have kk : wa.heap[w.heap.size]? = some (kidOI 2 n m a (.slice o len c)) := by rw [← hwa]; exact heap_alloc_new _ _
  have HK : Hid (wa.heap[w.heap.size]? = some (kidOI 2 n m a (.slice o len c))) := kk
  obtain ⟨⟨z0, z1, z2, z3, z4⟩, _⟩ := kid_cellsI kk
  unfold kidVI
  clear kk
  cases ok with
  | false =>
    have HR2 : Hid (R = none) := by show _ = _; rw [← HR.out]; unfold pconstP; rw [HOK.out]; rfl
    go_enter Tryz.func60, Tryz.ntmps60
    go_wp2_with fail
    refine (HMH.out _).mono ?_
    rintro e w2 ⟨hB, hq⟩
    rcases hq with ⟨hq, _⟩ | ⟨_, he⟩
    · cases hq
    have HB2 : Hid (Below w.heap.size w w2) := HB.out.trans (hB.mono HB.out.size)
    clear hB
    unfold treeFault at he
    subst he
    go_wp2
    exact ⟨rfl, v0, Lx.Kept.of_below HB2.out, Or.inr ⟨HR2.out, rfl⟩⟩
  | true =>
    have HR2 : Hid (R = (layP [[99, 111, 110, 115, 116], n, [61]] txt).bind (pnumP (-2147483648) k1 n1 m1 l1)) := by show _ = _; rw [← HR.out]; unfold pconstP; rw [HOK.out]; rfl
    have HN : Hid (n ≠ [] ∧ n.length ≤ 64) := by
      have := HOK.out
      rw [Bool.and_eq_true] at this
      exact nameOk_len this.1
    have hl : len = 1 := by
      have := HOK.out
      unfold sizeOk at this
      simp at this
      omega
    subst hl
    obtain ⟨ho, hgp, hkr⟩ := HKID.out rfl
    subst ho
    have HKR : Hid (g < p ∧ KidR w g 0 k1 n1 m1 a1 (.slice o1 l1 c1)) := ⟨hgp, hkr⟩
    clear HKID hgp hkr
    go_enter Tryz.func60, Tryz.ntmps60
    go_wp2_with fail
    refine (HMH.out _).mono ?_
    rintro e w2 ⟨hB, hq⟩
    rcases hq with ⟨_, rfl⟩ | ⟨hq, _⟩
    case inr => cases hq
    have HB2 : Hid (Below w.heap.size w w2) := HB.out.trans (hB.mono HB.out.size)
    have HK2 : Hid (w2.heap[w.heap.size]? = some (kidOI 2 n m a (.slice (some ⟨g, 0, none⟩) 1 c))) := below_blk hB HK.out
    obtain ⟨⟨z0, z1, z2, z3, z4⟩, _⟩ := kid_cellsI HK2.out
    clear hB hwa
    have HP2 : Hid (PR w2 p txt d v0) := HP.out.1.below HB2.out
    go_wp2_with fail
    refine (lay_lit p [[99, 111, 110, 115, 116], n, [61]] _ rfl (by have hn := HN.out; intro t ht; simp at ht; rcases ht with rfl | rfl | rfl; exact ⟨by simp, by simp⟩; exact hn; exact ⟨by simp, by simp⟩) (by simp) 3 rfl txt d v0 w2 HP2.out HP.out.2).mono ?_
    rintro e w3 ⟨v3, hk, hQ⟩
    have HK3 : Hid (Lx.Kept p v0 v3 w w3) := (Lx.Kept.of_below HB2.out).trans hk
    rcases hQ with ⟨x, hx1, hx2, rfl, hPR⟩ | ⟨hx1, he⟩
    case inr =>
      have HF : Hid (R = none) := HR2.out.trans (by rw [hx1]; rfl)
      clear hx1 hk
      unfold treeFault at he
      subst he
      go_wp2
      exact ⟨rfl, v3, HK3.out, Or.inr ⟨HF.out, rfl⟩⟩
    have HF : Hid (R = pnumP (-2147483648) k1 n1 m1 l1 x) := HR2.out.trans (by rw [hx1]; rfl)
    have HP3 : Hid (PR w3 p x d v3 ∧ x.length ≤ 16000) := ⟨hPR, hx2⟩
    have hfr := HP.out.1.front HK3.out
    have x4 : w3.cell? ⟨w.heap.size, 4, none⟩ = some (.slice (some ⟨g, 0, none⟩) 1 c) := (kid_cellsI ((hk.block w.heap.size (blk_lt HK2.out) (by have := HP.out.1.lt; omega) (own_lt HP.out.1.own _ (Nat.le_refl _))).trans HK2.out)).1.2.2.2.2
    obtain ⟨a0, b0, c0, d0, e0⟩ := HKR.out.2.frame (hfr g HKR.out.1)
    have HI3 : Hid (ItoaFor M p w3) := HI.out.1.front hfr
    clear hx1 hx2 hPR hk hfr
    simp only [Nat.zero_mul, Nat.zero_add] at a0 b0 c0 d0 e0
    go_wp2_with fail
    refine (pnumber_any p k1 n1 m1 a1 o1 l1 c1 (-2147483648) x d v3 w3 HP3.out.1 HP3.out.2 HM.out.1 HM.out.2 (fun w1 hw => HI3.out m1 HI.out.2 w1 (Front.of_below (Nat.le_of_lt HP3.out.1.lt) hw))).mono ?_
    rintro e w4 ⟨v4, hk, hQ⟩
    have HK4 : Hid (Lx.Kept p v0 v4 w w4) := HK3.out.trans hk
    clear hk
    rcases hQ with ⟨y, hx1, hx2, rfl, hPR⟩ | ⟨hx1, he⟩
    · have HG : Hid (R = some y ∧ y.length ≤ 16000 ∧ PR w4 p y d v4) := ⟨HF.out.trans hx1, hx2, hPR⟩
      clear hx1 hx2 hPR
      go_wp2
      first | go_end0 | refine bodyPost_ret (results_none rfl _ _ _) rfl ?_
      exact ⟨v4, HK4.out, Or.inl ⟨y, HG.out.1, HG.out.2.1, rfl, HG.out.2.2⟩⟩
    · have HG : Hid (R = none) := HF.out.trans hx1
      clear hx1
      unfold treeFault at he
      subst he
      go_wp2
      exact ⟨rfl, v4, HK4.out, Or.inr ⟨HG.out, rfl⟩⟩
end Go.Proofs.YteokdknaadckbaaGreatDoor
namespace Go.Proofs.YteokdknaadckbaaGreatDoor
open Go.RowKit Go.Lib

def defsP (df : ITree → List UInt8 → Option (List UInt8)) : List ITree → List UInt8 → Option (List UInt8)
  | [], txt => some txt
  | t :: ts, txt => ((df t txt).bind (layP [[59]])).bind (defsP df ts)
def psourceP (df : ITree → List UInt8 → Option (List UInt8)) (k : Int) (n : List UInt8) (m : Int) (ks : List ITree) (txt : List UInt8) : Option (List UInt8) :=
  if k == 1 && (nameOk n false && sizeOk ks.length m 0 100) then defsP df ks txt else none
set_option maxHeartbeats 2000000 in
set_option maxRecDepth 4000 in
theorem psource_any (p : Nat) (k : Int) (n : List UInt8) (m a : Int) (o : Option Addr) (ks : List ITree) (c : Nat) (g : Nat) (txt0 : List UInt8) (d : Int) (v0 : Value) (w : World) (h : PR w p txt0 d v0) (hx : txt0.length ≤ 16000) (hn : n.length ≤ maxLen)
    (df : ITree → List UInt8 → Option (List UInt8))
    (hkid : ∀ j (hj : j < ks.length), o = some ⟨g, 0, none⟩ ∧ g < p ∧ ∃ k1 n1 m1 a1 o1 l1 c1, KidR w g j k1 n1 m1 a1 (.slice o1 l1 c1) ∧ ∀ w1 txt v, PR w1 p txt d v → txt.length ≤ 16000 → Front p w w1 → Calls Tryz.prog 60 #[.pointer (some ⟨p, 0, none⟩), kidVI k1 n1 m1 a1 (.slice o1 l1 c1)] w1 (LaidPost p d v (df ks[j] txt) w1)) :
    Calls Tryz.prog 36 #[.pointer (some ⟨p, 0, none⟩), kidVI k n m a (.slice o ks.length c)] w (LaidPost p d v0 (psourceP df k n m ks txt0) w) := by
  have HP : Hid (PR w p txt0 d v0 ∧ txt0.length ≤ 16000) := ⟨h, hx⟩
  have HKID : Hid (∀ j (hj : j < ks.length), o = some ⟨g, 0, none⟩ ∧ g < p ∧ ∃ k1 n1 m1 a1 o1 l1 c1, KidR w g j k1 n1 m1 a1 (.slice o1 l1 c1) ∧ ∀ w1 txt v, PR w1 p txt d v → txt.length ≤ 16000 → Front p w w1 → Calls Tryz.prog 60 #[.pointer (some ⟨p, 0, none⟩), kidVI k1 n1 m1 a1 (.slice o1 l1 c1)] w1 (LaidPost p d v (df ks[j] txt) w1)) := hkid
  obtain ⟨R, hR⟩ : ∃ R, psourceP df k n m ks txt0 = R := ⟨_, rfl⟩
  rw [hR]
  have HR : Hid (psourceP df k n m ks txt0 = R) := hR
  obtain ⟨L, hL⟩ : ∃ L, ks.length = L := ⟨_, rfl⟩
  rw [hL]
  have HL : Hid (ks.length = L) := hL
  obtain ⟨ok, hok⟩ : ∃ ok, (nameOk n false && sizeOk L m 0 100) = ok := ⟨_, rfl⟩
  have HOK : Hid ((nameOk n false && sizeOk L m 0 100) = ok) := hok
  have HMH : Hid (∀ w, Calls Tryz.prog 59 #[kidVI k n m a (.slice o L c), .bool false, .int .i64 0, .int .i64 100] w (MustPost ok w)) := by
    show ∀ w, _
    intro w
    rw [← hok]
    exact mustHave_false k n m a o L c 0 100 w (by unfold maxLen at hn; omega)
  unfold kidVI at HMH
  clear h hx hkid hok hn hR hL
  obtain ⟨wa, hwa⟩ : ∃ x, w.alloc (.cells #[.int .i64 k, .string ⟨n.toArray⟩, .int .i64 m, .int .i64 a, .slice o L c] 29) = x := ⟨_, rfl⟩
  have HB : Hid (Below w.heap.size w wa) := by show Below w.heap.size w wa; rw [← hwa]; exact below_alloc _ _
  have kk : wa.heap[w.heap.size]? = some (kidOI k n m a (.slice o L c)) := by rw [← hwa]; exact heap_alloc_new _ _
  have HK : Hid (wa.heap[w.heap.size]? = some (kidOI k n m a (.slice o L c))) := kk
  obtain ⟨⟨z0, z1, z2, z3, z4⟩, _⟩ := kid_cellsI kk
  unfold kidVI
  clear kk
  by_cases h1 : k = 1
  case neg =>
    have j1 : (k == 1) = false := by simp [h1]
    have HR2 : Hid (R = none) := by show _ = _; rw [← HR.out]; unfold psourceP; simp [h1]
    go_enter Tryz.func36, Tryz.ntmps36
    go_wp2_with (first | (go_at_call 58; refine (must_true _).mono ?_; rintro e wi ⟨rfl, hwi⟩; rw [hwi]; clear hwi wi) | (go_at_call 58; refine (must_false _).mono ?_; rintro e wi ⟨he, hwi⟩; rw [hwi]; clear hwi; unfold treeFault at he; rw [he]; clear he wi))
    exact ⟨rfl, v0, Lx.Kept.of_below HB.out, Or.inr ⟨HR2.out, rfl⟩⟩
  subst h1
  cases ok with
  | false =>
    have HR2 : Hid (R = none) := by show _ = _; rw [← HR.out]; unfold psourceP; rw [HL.out, HOK.out]; rfl
    go_enter Tryz.func36, Tryz.ntmps36
    go_wp2_with (first | (go_at_call 58; refine (must_true _).mono ?_; rintro e wi ⟨rfl, hwi⟩; rw [hwi]; clear hwi wi) | (go_at_call 58; refine (must_false _).mono ?_; rintro e wi ⟨he, hwi⟩; rw [hwi]; clear hwi; unfold treeFault at he; rw [he]; clear he wi))
    refine (HMH.out _).mono ?_
    rintro e w2 ⟨hB, hq⟩
    rcases hq with ⟨hq, _⟩ | ⟨_, he⟩
    · cases hq
    have HB2 : Hid (Below w.heap.size w w2) := HB.out.trans (hB.mono HB.out.size)
    clear hB
    unfold treeFault at he
    subst he
    go_wp2
    exact ⟨rfl, v0, Lx.Kept.of_below HB2.out, Or.inr ⟨HR2.out, rfl⟩⟩
  | true =>
    have HR2 : Hid (defsP df (ks.drop 0) txt0 = R) := by show _ = _; rw [← HR.out]; unfold psourceP; rw [HL.out, HOK.out]; rfl
    have hl : L ≤ 100 := by
      have := HOK.out
      unfold sizeOk at this
      simp at this
      omega
    have HL100 : Hid (L ≤ 100) := hl
    go_enter Tryz.func36, Tryz.ntmps36
    go_wp2_with (first | (go_at_call 58; refine (must_true _).mono ?_; rintro e wi ⟨rfl, hwi⟩; rw [hwi]; clear hwi wi) | (go_at_call 58; refine (must_false _).mono ?_; rintro e wi ⟨he, hwi⟩; rw [hwi]; clear hwi; unfold treeFault at he; rw [he]; clear he wi))
    refine (HMH.out _).mono ?_
    rintro e w2 ⟨hB, hq⟩
    rcases hq with ⟨_, rfl⟩ | ⟨hq, _⟩
    case inr => cases hq
    have HB2 : Hid (Below w.heap.size w w2) := HB.out.trans (hB.mono HB.out.size)
    have HK2 : Hid (w2.heap[w.heap.size]? = some (kidOI 1 n m a (.slice o L c))) := below_blk hB HK.out
    obtain ⟨⟨z0, z1, z2, z3, z4⟩, _⟩ := kid_cellsI HK2.out
    clear hB hwa
    go_wp2_with fail
    go_loopw [15] (fun i wr => ∃ (q : Nat) (txt : List UInt8) (v : Value), i = .int .i64 q ∧ q ≤ L ∧ Hid (PR wr p txt d v ∧ txt.length ≤ 16000) ∧ Hid (Lx.Kept p v0 v w wr) ∧ Hid (defsP df (ks.drop q) txt = R)) (fun i _ => L - (RowKit.intOf i).toNat)
    case atStart => exact ⟨0, txt0, v0, rfl, by omega, ⟨HP.out.1.below HB2.out, HP.out.2⟩, Lx.Kept.of_below HB2.out, HR2⟩
    case round =>
      obtain ⟨q, txt, v, rfl, hq, HPR, HKP, HDF⟩ := hrel
      by_cases hlt : q < L
      · have hlt' : (q : Int) < L := by omega
        have hq0 : (0 : Int) ≤ (q : Int) := by omega
        have hqm : (q : Int) ≤ 1000 := by have := HL100.out; omega
        have HQL : Hid (q < L) := hlt
        have hqk : q < ks.length := by have := HL.out; omega
        obtain ⟨ho, hgp, k1, n1, m1, a1, o1, l1, c1, hkr, hcal⟩ := HKID.out q hqk
        subst ho
        have HFR : Hid (Front p w wr) := HP.out.1.front HKP.out
        have HCAL : Hid (∀ w1 txt v, PR w1 p txt d v → txt.length ≤ 16000 → Front p w w1 → Calls Tryz.prog 60 #[.pointer (some ⟨p, 0, none⟩), kidVI k1 n1 m1 a1 (.slice o1 l1 c1)] w1 (LaidPost p d v (df ks[q] txt) w1)) := hcal
        have HSTEP : Hid (R = ((df ks[q] txt).bind (layP [[59]])).bind (defsP df (ks.drop (q + 1)))) := by
          show _ = _
          rw [← HDF.out, List.drop_eq_getElem_cons hqk]
          rfl
        obtain ⟨tq, htq⟩ : ∃ t, ks[q] = t := ⟨_, rfl⟩
        rw [htq] at HCAL HSTEP
        obtain ⟨a0, b0, c0, d0, e0⟩ := hkr.frame (HFR.out g hgp)
        clear hcal hkr hgp hlt htq hqk HDF
        unfold kidVI at HCAL
        obtain ⟨wb, hwb⟩ : ∃ x, wr.alloc (.cells #[.int .i64 k1, .string ⟨n1.toArray⟩, .int .i64 m1, .int .i64 a1, .slice o1 l1 c1] 29) = x := ⟨_, rfl⟩
        have HBB : Hid (Below wr.heap.size wr wb) := by show Below _ _ _; rw [← hwb]; exact below_alloc _ _
        have HKB : Hid (wb.heap[wr.heap.size]? = some (kidOI k1 n1 m1 a1 (.slice o1 l1 c1))) := by show _ = _; rw [← hwb]; exact heap_alloc_new _ _
        obtain ⟨⟨x0, x1, x2, x3, x4⟩, _⟩ := kid_cellsI HKB.out
        have HPB : Hid (PR wb p txt d v) := HPR.out.1.below HBB.out
        have HFB : Hid (Front p w wb) := HFR.out.trans (Front.of_below (Nat.le_of_lt HPR.out.1.lt) HBB.out)
        go_wp2_with fail
        refine (HCAL.out wb txt v HPB.out HPR.out.2 HFB.out).mono ?_
        clear hwb
        rintro e w3 ⟨v3, hk, hQ⟩
        have HK3 : Hid (Lx.Kept p v0 v3 w w3) := (HKP.out.trans (Lx.Kept.of_below HBB.out)).trans hk
        clear hk
        rcases hQ with ⟨x, hx1, hx2, rfl, hPR⟩ | ⟨hx1, he⟩
        case inr =>
          have HF : Hid (R = none) := HSTEP.out.trans (by rw [hx1]; rfl)
          clear hx1
          unfold treeFault at he
          subst he
          go_wp2
          exact ⟨rfl, v3, HK3.out, Or.inr ⟨HF.out, rfl⟩⟩
        have HF : Hid (R = (layP [[59]] x).bind (defsP df (ks.drop (q + 1)))) := HSTEP.out.trans (by rw [hx1]; rfl)
        have HP3 : Hid (PR w3 p x d v3 ∧ x.length ≤ 16000) := ⟨hPR, hx2⟩
        clear hx1 hx2 hPR
        go_wp2_with fail
        refine (lay_lit p [[59]] _ rfl (by intro t ht; simp at ht; subst ht; exact ⟨by simp, by simp⟩) (by simp) 1 rfl x d v3 w3 HP3.out.1 HP3.out.2).mono ?_
        rintro e w4 ⟨v4, hk, hQ⟩
        have HK4 : Hid (Lx.Kept p v0 v4 w w4) := HK3.out.trans hk
        clear hk
        rcases hQ with ⟨y, hx1, hx2, rfl, hPR⟩ | ⟨hx1, he⟩
        case inr =>
          have HG : Hid (R = none) := HF.out.trans (by rw [hx1]; rfl)
          clear hx1
          unfold treeFault at he
          subst he
          go_wp2
          exact ⟨rfl, v4, HK4.out, Or.inr ⟨HG.out, rfl⟩⟩
        have HG : Hid (defsP df (ks.drop (q + 1)) y = R) := by show _ = _; rw [HF.out, hx1]; rfl
        have HP4 : Hid (PR w4 p y d v4 ∧ y.length ≤ 16000) := ⟨hPR, hx2⟩
        clear hx1 hx2 hPR
        go_wp2
        go_roundw
        case rel => exact ⟨q + 1, y, v4, by go_num, HQL.out, HP4, HK4, HG⟩
        case measure => have := HQL.out; simp [RowKit.intOf]; omega
      · have hqe : q = L := by omega
        subst hqe
        have hlt' : ¬ (q : Int) < q := by omega
        have HG : Hid (R = some txt) := by show _ = _; rw [← HDF.out, List.drop_of_length_le (by have := HL.out; omega)]; rfl
        go_wp2
        first | go_end0 | refine bodyPost_ret (results_none rfl _ _ _) rfl ?_
        exact ⟨v, HKP.out, Or.inl ⟨txt, HG.out, HPR.out.2, rfl, HPR.out.1⟩⟩
end Go.Proofs.YteokdknaadckbaaGreatDoor
namespace Go.Proofs.YteokdknaadckbaaGreatDoor
open Go.RowKit

theorem conv_text {w : World} {p : Nat} {x : List UInt8} {d : Int} {v : Value} (h : PR w p x d v) : (convert 66 9 v).run Tryz.prog w = .ok (.string ⟨x.toArray⟩) w := by
  have ho := h.own
  rcases ho.2 with ⟨rfl, hx⟩ | ⟨g, cap, cur, rfl, hbg, hg, hnc, hcm, hcs, htake⟩
  · have : x = [] := List.length_eq_zero_iff.1 hx
    subst this
    exact run_convert_bytes_nil w 66 5 Tryz.underlying66 Tryz.underlying5 0 0 9 Tryz.underlying9
  · have hr := run_convert_bytes_arg (P := Tryz.prog) w 66 5 Tryz.underlying66 Tryz.underlying5 g 0 x.length cap (x.map fun b => (b.toNat : Int)) (by simp) (fun i hi => by
      have h2 := ho.cells (g := g) rfl i (.int .u8 (x[i]).toNat) (by simp [hi])
      rw [show (⟨g, 0 + i, none⟩ : Addr) = (⟨g, 0, none⟩ : Addr).add i by unfold Addr.add; simp]
      rw [h2]
      simp [hi]) 9 Tryz.underlying9
    have he : strOfNums (x.map fun b => (b.toNat : Int)) = ⟨x.toArray⟩ := by
      unfold strOfNums
      have hm : ((x.map fun b => (b.toNat : Int)).map fun n => UInt8.ofNat n.toNat) = x := by
        rw [List.map_map]
        refine (List.map_congr_left (g := id) fun b _ => ?_).trans (List.map_id x)
        simp
      rw [hm]
    rw [hr, he]
/-- a variable of one text -/
def strO (s : List UInt8) : Obj := .cells #[.string ⟨s.toArray⟩] 9 (0, 0)
theorem str_cells {w : World} {b : Nat} {s : List UInt8} (h : w.heap[b]? = some (strO s)) : w.cell? ⟨b, 0, none⟩ = some (.string ⟨s.toArray⟩) ∧ w.frozen? ⟨b, 0, none⟩ = false := by
  unfold strO at h
  simp [World.cell?, World.frozen?, h]

set_option maxHeartbeats 2000000 in
set_option maxRecDepth 4000 in
theorem pcatch_fault (sb eb : Nat) (why at_ : Int) (older : List PanicEntry) (w : World) (s : List UInt8) (x : Int) (hs : w.heap[sb]? = some (strO s)) (he : w.heap[eb]? = some (oneO x 30)) (h1 : sb ≠ eb) :
    CallsD Tryz.prog 35 #[.pointer (some ⟨sb, 0, none⟩), .pointer (some ⟨eb, 0, none⟩)] (.panicking ({ v := .iface 50 (.agg #[.int .i64 why, .int .i64 at_]), recovered := false } :: older)) w fun e u' w' =>
      e = .returned (.tuple #[]) ∧ u' = .panicking ({ v := .iface 50 (.agg #[.int .i64 why, .int .i64 at_]), recovered := true } :: older) ∧
      (w'.heap[sb]? = some (strO []) ∧ w'.heap[eb]? = some (oneO why 30)) ∧ (∀ b, b < w.heap.size → b ≠ sb → b ≠ eb → w'.heap[b]? = w.heap[b]?) ∧ w'.os = w.os ∧ w'.tape = w.tape ∧ w'.output = w.output ∧ w.heap.size ≤ w'.heap.size := by
  have qa := assert_fault why at_
  have HW : Hid (w.heap[sb]? = some (strO s) ∧ w.heap[eb]? = some (oneO x 30)) := ⟨hs, he⟩
  refine callsD_of_wpS Tryz.func35 rfl fun c₀ cs hu => ?_
  clear hs he
  apply wpS_seq
  apply wpS_region
  simp [wpOpsS, go_sem, recoverD, hu, Tryz.ntmps35, Exit.thenS, Array.replicate, qa]
  obtain ⟨wa, hwa⟩ : ∃ x, w.alloc (.cells #[.int .i64 why, .int .i64 at_] 50) = x := ⟨_, rfl⟩
  rw [hwa]
  have kt : wa.heap[sb]? = some (strO s) := by rw [← hwa]; exact alloc_blk HW.out.1
  have ke : wa.heap[eb]? = some (oneO x 30) := by rw [← hwa]; exact alloc_blk HW.out.2
  have HK : Hid (wa.heap[sb]? = some (strO s) ∧ wa.heap[eb]? = some (oneO x 30)) := ⟨kt, ke⟩
  have HA : Hid (Below w.heap.size w wa) := by show Below w.heap.size w wa; rw [← hwa]; exact below_alloc _ _
  have f0 : wa.cell? ⟨w.heap.size, 0, none⟩ = some (.int .i64 why) := by rw [← hwa]; simp
  have f1 : wa.cell? ⟨w.heap.size, 1, none⟩ = some (.int .i64 at_) := by rw [← hwa]; simp
  obtain ⟨z0, y0⟩ := str_cells kt
  obtain ⟨e0, g0⟩ := one_cells ke
  have n1 : ¬ w.heap.size = sb := by have := blk_lt HW.out.1; omega
  have n2 : ¬ w.heap.size = eb := by have := blk_lt HW.out.2; omega
  have m1 : ¬ sb = eb := h1
  have m4 : ¬ eb = sb := fun e => h1 e.symm
  clear kt ke h1 hwa qa
  refine wpS_of_wp ?_
  go_wp2
  go_region
  all_goals (
    go_wp2
    have hz : (((wa.setCell ⟨sb, 0, none⟩ (.string ⟨#[]⟩)).setCell ⟨eb, 0, none⟩ (.int .i64 why)).drew.heap[sb]? = some (strO []) ∧ ((wa.setCell ⟨sb, 0, none⟩ (.string ⟨#[]⟩)).setCell ⟨eb, 0, none⟩ (.int .i64 why)).drew.heap[eb]? = some (oneO why 30)) ∧ (∀ b, b < w.heap.size → b ≠ sb → b ≠ eb → ((wa.setCell ⟨sb, 0, none⟩ (.string ⟨#[]⟩)).setCell ⟨eb, 0, none⟩ (.int .i64 why)).drew.heap[b]? = w.heap[b]?) ∧ ((wa.setCell ⟨sb, 0, none⟩ (.string ⟨#[]⟩)).setCell ⟨eb, 0, none⟩ (.int .i64 why)).drew.os = w.os ∧ ((wa.setCell ⟨sb, 0, none⟩ (.string ⟨#[]⟩)).setCell ⟨eb, 0, none⟩ (.int .i64 why)).drew.tape = w.tape ∧ ((wa.setCell ⟨sb, 0, none⟩ (.string ⟨#[]⟩)).setCell ⟨eb, 0, none⟩ (.int .i64 why)).drew.output = w.output ∧ w.heap.size ≤ ((wa.setCell ⟨sb, 0, none⟩ (.string ⟨#[]⟩)).setCell ⟨eb, 0, none⟩ (.int .i64 why)).drew.heap.size := by
      have hA := HA.out
      refine ⟨⟨?_, ?_⟩, ?_, hA.os, hA.tape, hA.output, ?_⟩
      · exact (Below.heap_setCell _ _ _ _ m1).trans (setCell_blk HK.out.1)
      · exact setCell_blk ((Below.heap_setCell _ _ _ _ m4).trans HK.out.2)
      · intro b hb q1 q2
        exact (Below.heap_setCell _ _ _ _ q2).trans ((Below.heap_setCell _ _ _ _ q1).trans (hA.block b hb))
      · show w.heap.size ≤ ((wa.setCell ⟨sb, 0, none⟩ (.string ⟨#[]⟩)).setCell ⟨eb, 0, none⟩ (.int .i64 why)).heap.size
        have := hA.size
        simp
        omega
    generalize ((wa.setCell ⟨sb, 0, none⟩ (.string ⟨#[]⟩)).setCell ⟨eb, 0, none⟩ (.int .i64 why)).drew = wz at hz ⊢
    clear z0 y0 e0 g0 f0 f1 HW HK HA
    cases c₀
    simp_all [bodyPostS, results, Tryz.results35])
set_option maxHeartbeats 2000000 in
set_option maxRecDepth 4000 in
theorem pcatch_idle (sb eb : Nat) (w : World) :
    CallsD Tryz.prog 35 #[.pointer (some ⟨sb, 0, none⟩), .pointer (some ⟨eb, 0, none⟩)] .returning w fun e u' w' => e = .returned (.tuple #[]) ∧ u' = .returning ∧ Below w.heap.size w w' := by
  have qa := assert_none
  refine callsD_of_wpS Tryz.func35 rfl fun c₀ cs hu => ?_
  apply wpS_seq
  apply wpS_region
  simp [wpOpsS, go_sem, recoverD, hu, Tryz.ntmps35, Exit.thenS, Array.replicate, qa]
  refine wpS_of_wp ?_
  go_wp2
  have hb : Below w.heap.size w (w.alloc (.cells #[.int .i64 0, .int .i64 0] 50)) := below_alloc _ _
  generalize w.alloc (.cells #[.int .i64 0, .int .i64 0] 50) = wz at hb ⊢
  cases c₀
  simp_all [bodyPostS, results, Tryz.results35]
end Go.Proofs.YteokdknaadckbaaGreatDoor
namespace Go.Proofs.YteokdknaadckbaaGreatDoor
open Go.RowKit

/-- what Print answers -/
def PrintPost (R : Option (List UInt8)) (w : World) (e : Ending) (w' : World) : Prop :=
  (match R with
  | some x => e = .returned (.tuple #[.string ⟨x.toArray⟩, .int .i64 0])
  | none => e = .returned (.tuple #[.string ⟨#[]⟩, .int .i64 43])) ∧ Below w.heap.size w w'
theorem Kept.to_below {p : Nat} {v v' : Value} {w wp w' : World} {txt : List UInt8} {d : Int} (hB : Below w.heap.size w wp) (hp : w.heap.size ≤ p) (hP : PR wp p txt d v) (hS : Lx.Kept p v v' wp w') : Below w.heap.size w w' :=
  ⟨hS.os.trans hB.os, hS.tape.trans hB.tape, hS.output.trans hB.output, Nat.le_trans hB.size hS.size, fun b hb => (hS.block b (Nat.lt_of_lt_of_le hb hB.size) (by omega) (own_ge hP.own b (by omega))).trans (hB.block b hb)⟩
theorem PR.made (w : World) : PR (w.alloc (.cells #[.slice none 0 0, .int .i64 0] 68)) w.heap.size [] 0 (.slice none 0 0) := by
  have hb : (w.alloc (.cells #[.slice none 0 0, .int .i64 0] 68)).heap[w.heap.size]? = some (.cells #[.slice none 0 0, .int .i64 0] 68 (0, 0)) := heap_alloc_new _ _
  refine ⟨?_, ?_, ?_, ?_, World.ownsRow_nil _ _ _ _⟩
  · unfold World.cell?; simp only [hb]; rfl
  · unfold World.cell?; simp only [hb]; rfl
  · unfold World.frozen?; simp only [hb]; rfl
  · unfold World.frozen?; simp only [hb]; rfl
set_option maxHeartbeats 2000000 in
set_option maxRecDepth 4000 in
theorem print_any (k : Int) (n : List UInt8) (m a : Int) (o : Option Addr) (L c : Nat) (R : Option (List UInt8)) (w : World)
    (hsrc : ∀ w1 p, w.heap.size ≤ p → Below w.heap.size w w1 → PR w1 p [] 0 (.slice none 0 0) → Calls Tryz.prog 36 #[.pointer (some ⟨p, 0, none⟩), kidVI k n m a (.slice o L c)] w1 (LaidPost p 0 (.slice none 0 0) R w1)) :
    Calls Tryz.prog 20 #[kidVI k n m a (.slice o L c)] w (PrintPost R w) := by
  have hmf : ∀ (fn : Fn) (first cap : Array Value) (w : World), (Instr.makeFunc fn first cap).run Tryz.prog w = .ok (.func fn first cap) w := fun _ _ _ _ => rfl
  have HSRC : Hid (∀ w1 p, w.heap.size ≤ p → Below w.heap.size w w1 → PR w1 p [] 0 (.slice none 0 0) → Calls Tryz.prog 36 #[.pointer (some ⟨p, 0, none⟩), kidVI k n m a (.slice o L c)] w1 (LaidPost p 0 (.slice none 0 0) R w1)) := hsrc
  clear hsrc
  obtain ⟨wa1, hwa1⟩ : ∃ x, w.alloc (.cells #[.int .i64 k, .string ⟨n.toArray⟩, .int .i64 m, .int .i64 a, .slice o L c] 29) = x := ⟨_, rfl⟩
  obtain ⟨wa2, hwa2⟩ : ∃ x, wa1.alloc (.cells #[.string ⟨#[]⟩] 9) = x := ⟨_, rfl⟩
  obtain ⟨wa3, hwa3⟩ : ∃ x, wa2.alloc (.cells #[.int .i64 0] 30) = x := ⟨_, rfl⟩
  obtain ⟨wp, hwp⟩ : ∃ x, wa3.alloc (.cells #[.slice none 0 0, .int .i64 0] 68) = x := ⟨_, rfl⟩
  have b1 : Below w.heap.size w wa1 := by rw [← hwa1]; exact below_alloc _ _
  have b2 : Below w.heap.size w wa2 := by rw [← hwa2]; exact b1.alloc b1.size _
  have b3 : Below w.heap.size w wa3 := by rw [← hwa3]; exact b2.alloc b2.size _
  have bp : Below w.heap.size w wp := by rw [← hwp]; exact b3.alloc b3.size _
  have kt : wp.heap[w.heap.size]? = some (kidOI k n m a (.slice o L c)) := by rw [← hwp, ← hwa3, ← hwa2, ← hwa1]; exact alloc_blk (alloc_blk (alloc_blk (heap_alloc_new _ _)))
  have ks : wp.heap[wa1.heap.size]? = some (strO []) := by rw [← hwp, ← hwa3, ← hwa2]; exact alloc_blk (alloc_blk (heap_alloc_new _ _))
  have ke : wp.heap[wa2.heap.size]? = some (oneO 0 30) := by rw [← hwp, ← hwa3]; exact alloc_blk (heap_alloc_new _ _)
  have HLT : Hid (w.heap.size < wa1.heap.size ∧ wa1.heap.size < wa2.heap.size ∧ wa2.heap.size < wa3.heap.size ∧ wa3.heap.size < wp.heap.size) := ⟨by rw [← hwa1]; simp, by rw [← hwa2]; simp, by rw [← hwa3]; simp, by rw [← hwp]; simp⟩
  have HP : Hid (PR wp wa3.heap.size [] 0 (.slice none 0 0) ∧ Below w.heap.size w wp) := ⟨by rw [← hwp]; exact PR.made wa3, bp⟩
  have HK : Hid (wp.heap[wa1.heap.size]? = some (strO []) ∧ wp.heap[wa2.heap.size]? = some (oneO 0 30)) := ⟨ks, ke⟩
  obtain ⟨⟨z0, z1, z2, z3, z4⟩, _⟩ := kid_cellsI kt
  have m1 : ¬ wa1.heap.size = wa2.heap.size := by have := HLT.out; omega
  have m2 : ¬ wa2.heap.size = wa1.heap.size := by have := HLT.out; omega
  clear b1 b2 b3 bp kt ks ke
  unfold kidVI at HSRC ⊢
  go_enter_defers Tryz.func20, Tryz.ntmps20
  go_wp2_with fail
  refine (HSRC.out wp wa3.heap.size (by have := HLT.out; omega) HP.out.2 HP.out.1).mono ?_
  clear hwa1 hwa2 hwa3 hwp
  rintro e w9 ⟨v9, hk, hQ⟩
  have hlt := HLT.out
  have hB9 : Below w.heap.size w w9 := Kept.to_below HP.out.2 (by omega) HP.out.1 hk
  have k1 : w9.heap[wa1.heap.size]? = some (strO []) := (hk.block _ (blk_lt HK.out.1) (by omega) (by simp [Value.ownBlock])).trans HK.out.1
  have k2 : w9.heap[wa2.heap.size]? = some (oneO 0 30) := (hk.block _ (blk_lt HK.out.2) (by omega) (by simp [Value.ownBlock])).trans HK.out.2
  have HK9 : Hid (w9.heap[wa1.heap.size]? = some (strO []) ∧ w9.heap[wa2.heap.size]? = some (oneO 0 30) ∧ Below w.heap.size w w9) := ⟨k1, k2, hB9⟩
  clear hk hB9 hlt
  rcases hQ with ⟨x, hx1, hx2, rfl, hPR⟩ | ⟨hx1, he⟩
  · subst hx1
    have hcv := conv_text hPR
    have HP9 : Hid (PR w9 wa3.heap.size x 0 v9) := hPR
    have c0 := hPR.c0
    obtain ⟨s0, f0⟩ := str_cells k1
    obtain ⟨e0, g0⟩ := one_cells k2
    obtain ⟨o9, c9, hv9⟩ := Lx.own_form hPR.own
    subst hv9
    clear hPR k1 k2 hx2
    go_wp2
    have hlt := HLT.out
    have hz1 : ((w9.setCell ⟨wa1.heap.size, 0, none⟩ (.string ⟨x.toArray⟩)).setCell ⟨wa2.heap.size, 0, none⟩ (.int .i64 0)).heap[wa1.heap.size]? = some (strO x) := (Below.heap_setCell _ _ _ _ m1).trans (setCell_blk HK9.out.1)
    have hz2 : ((w9.setCell ⟨wa1.heap.size, 0, none⟩ (.string ⟨x.toArray⟩)).setCell ⟨wa2.heap.size, 0, none⟩ (.int .i64 0)).heap[wa2.heap.size]? = some (oneO 0 30) := setCell_blk ((Below.heap_setCell _ _ _ _ m2).trans HK9.out.2.1)
    have hbz : Below w.heap.size w ((w9.setCell ⟨wa1.heap.size, 0, none⟩ (.string ⟨x.toArray⟩)).setCell ⟨wa2.heap.size, 0, none⟩ (.int .i64 0)) := (HK9.out.2.2.setCell (p := ⟨wa1.heap.size, 0, none⟩) (by show w.heap.size ≤ wa1.heap.size; omega) _).setCell (p := ⟨wa2.heap.size, 0, none⟩) (by show w.heap.size ≤ wa2.heap.size; omega) _
    generalize ((w9.setCell ⟨wa1.heap.size, 0, none⟩ (.string ⟨x.toArray⟩)).setCell ⟨wa2.heap.size, 0, none⟩ (.int .i64 0)) = wz at hz1 hz2 hbz ⊢
    have HZ : Hid (wz.heap[wa1.heap.size]? = some (strO x) ∧ wz.heap[wa2.heap.size]? = some (oneO 0 30) ∧ Below w.heap.size w wz) := ⟨hz1, hz2, hbz⟩
    clear hz1 hz2 hbz hcv c0 s0 f0 e0 g0 hlt
    refine leaves_cons (f := 35) (args := #[.pointer (some ⟨wa1.heap.size, 0, none⟩), .pointer (some ⟨wa2.heap.size, 0, none⟩)]) (by simp) (by simp [go_sem]) ?_
    refine (pcatch_idle wa1.heap.size wa2.heap.size wz).mono ?_
    rintro e u' wy ⟨rfl, rfl, hby⟩
    have hbw : Below w.heap.size w wy := HZ.out.2.2.trans (hby.mono HZ.out.2.2.size)
    have q5 := (str_cells (below_blk hby HZ.out.1)).1
    have q6 := (one_cells (below_blk hby HZ.out.2.1)).1
    clear hby hmf
    simp [Leaves, settle, results, Tryz.results20, go_sem, q5, q6]
    exact ⟨rfl, hbw⟩
  · subst hx1
    unfold treeFault at he
    subst he
    clear k1 k2
    go_wp2
    refine leaves_cons (f := 35) (args := #[.pointer (some ⟨wa1.heap.size, 0, none⟩), .pointer (some ⟨wa2.heap.size, 0, none⟩)]) (by simp) (by simp [go_sem]) ?_
    refine (pcatch_fault wa1.heap.size wa2.heap.size 43 0 [] w9 [] 0 HK9.out.1 HK9.out.2.1 m1).mono ?_
    rintro e u' wz ⟨rfl, rfl, ⟨hz1, hz2⟩, hf, h1, h2, h3, h4⟩
    have hlt := HLT.out
    have HB9 := HK9.out.2.2
    have hbz : Below w.heap.size w wz := ⟨h1.trans HB9.os, h2.trans HB9.tape, h3.trans HB9.output, Nat.le_trans HB9.size h4, fun b hb => (hf b (Nat.lt_of_lt_of_le hb HB9.size) (by omega) (by omega)).trans (HB9.block b hb)⟩
    have q5 := (str_cells hz1).1
    have q6 := (one_cells hz2).1
    clear hf h1 h2 h3 h4 hz1 hz2 hmf
    simp [Leaves, settle, results, Tryz.results20, go_sem, q5, q6]
    exact ⟨rfl, hbz⟩
end Go.Proofs.YteokdknaadckbaaGreatDoor
namespace Go.Proofs.YteokdknaadckbaaGreatDoor
open Go.RowKit

theorem belowT_drew {B : Nat} {a w : World} (h : Below B a w) (k : Nat) : Below B a (w.drewN k) := ⟨h.os, h.tape, h.output, h.size, h.block⟩
def sameHead (k k' : Int) (n n' : List UInt8) (m m' : Int) (L L' : Nat) : Bool := k == k' && (n == n' && (m == m' && L == L'))
set_option maxHeartbeats 2000000 in
set_option maxRecDepth 4000 in
theorem same_core (k : Int) (n : List UInt8) (m a : Int) (o : Option Addr) (L c : Nat) (k' : Int) (n' : List UInt8) (m' a' : Int) (o' : Option Addr) (L' c' : Nat) (w : World) (hL : L ≤ maxLen) (sm : Nat → Bool)
    (hkid : ∀ j, j < L → L = L' → ∃ g g', o = some ⟨g, 0, none⟩ ∧ o' = some ⟨g', 0, none⟩ ∧ ∃ k1 n1 m1 a1 sl1 k2 n2 m2 a2 sl2, ∀ w1, Below w.heap.size w w1 → KidR w1 g j k1 n1 m1 a1 sl1 ∧ KidR w1 g' j k2 n2 m2 a2 sl2 ∧ Calls Tryz.prog 23 #[kidVI k1 n1 m1 a1 sl1, kidVI k2 n2 m2 a2 sl2] w1 (fun e w' => e = .returned (.bool (sm j)) ∧ Below w1.heap.size w1 w')) :
    Calls Tryz.prog 23 #[kidVI k n m a (.slice o L c), kidVI k' n' m' a' (.slice o' L' c')] w (fun e w' => e = .returned (.bool (sameHead k k' n n' m m' L L' && (List.range L).all sm)) ∧ Below w.heap.size w w') := by
  have HKID : Hid (∀ j, j < L → L = L' → ∃ g g', o = some ⟨g, 0, none⟩ ∧ o' = some ⟨g', 0, none⟩ ∧ ∃ k1 n1 m1 a1 sl1 k2 n2 m2 a2 sl2, ∀ w1, Below w.heap.size w w1 → KidR w1 g j k1 n1 m1 a1 sl1 ∧ KidR w1 g' j k2 n2 m2 a2 sl2 ∧ Calls Tryz.prog 23 #[kidVI k1 n1 m1 a1 sl1, kidVI k2 n2 m2 a2 sl2] w1 (fun e w' => e = .returned (.bool (sm j)) ∧ Below w1.heap.size w1 w')) := hkid
  clear hkid
  have HLM : Hid (L ≤ 9223372036854775807) := by unfold maxLen at hL; show L ≤ _; omega
  clear hL
  obtain ⟨R, hR⟩ : ∃ R, (sameHead k k' n n' m m' L L' && (List.range L).all sm) = R := ⟨_, rfl⟩
  rw [hR]
  have HR : Hid ((sameHead k k' n n' m m' L L' && (List.range L).all sm) = R) := hR
  clear hR
  obtain ⟨wa, hwa⟩ : ∃ x, w.alloc (.cells #[.int .i64 k, .string ⟨n.toArray⟩, .int .i64 m, .int .i64 a, .slice o L c] 29) = x := ⟨_, rfl⟩
  obtain ⟨wb, hwb⟩ : ∃ x, wa.alloc (.cells #[.int .i64 k', .string ⟨n'.toArray⟩, .int .i64 m', .int .i64 a', .slice o' L' c'] 29) = x := ⟨_, rfl⟩
  have ba : Below w.heap.size w wa := by rw [← hwa]; exact below_alloc _ _
  have bb : Below w.heap.size w wb := by rw [← hwb]; exact ba.alloc ba.size _
  have HB : Hid (Below w.heap.size w wb) := bb
  have kk : wb.heap[w.heap.size]? = some (kidOI k n m a (.slice o L c)) := by rw [← hwb, ← hwa]; exact alloc_blk (heap_alloc_new _ _)
  have kk' : wb.heap[wa.heap.size]? = some (kidOI k' n' m' a' (.slice o' L' c')) := by rw [← hwb]; exact heap_alloc_new _ _
  have HK : Hid (wb.heap[w.heap.size]? = some (kidOI k n m a (.slice o L c)) ∧ wb.heap[wa.heap.size]? = some (kidOI k' n' m' a' (.slice o' L' c'))) := ⟨kk, kk'⟩
  obtain ⟨⟨z0, z1, z2, z3, z4⟩, _⟩ := kid_cellsI kk
  obtain ⟨⟨y0, y1, y2, y3, y4⟩, _⟩ := kid_cellsI kk'
  unfold kidVI
  clear kk kk' ba bb
  obtain ⟨E, hE⟩ : ∃ E, (n == n') = E := ⟨_, rfl⟩
  have HE : Hid ((n == n') = E) := hE
  have hE' : (n != n') = !E := by rw [← hE]; rfl
  by_cases h1 : k = k'
  · have j1 : (k != k') = false := by simp [h1]
    have H1 : Hid (k = k') := h1
    clear h1
    cases E with
    | true =>
      by_cases h3 : m = m'
      · have j3 : (m != m') = false := by simp [h3]
        have H3 : Hid (m = m') := h3
        clear h3
        by_cases h4 : L = L'
        · have HLL : Hid (L = L') := h4
          subst h4
          have HH : Hid (R = (List.range L).all sm) := by show _ = _; rw [← HR.out]; unfold sameHead; rw [HE.out]; simp [H1.out, H3.out]
          have HKK : Hid (k = k' ∧ m = m') := ⟨H1.out, H3.out⟩
          go_enter Tryz.func23, Tryz.ntmps23
          go_wp2
          clear hwa hwb j1 j3 hE hE'
          go_loopw [37] (fun i wr => ∃ (q : Nat), i = .int .i64 q ∧ q ≤ L ∧ Hid (Below wb.heap.size wb wr) ∧ Hid (∀ j, j < q → sm j = true)) (fun i _ => L - (intOf i).toNat)
          case atStart => exact ⟨0, rfl, by omega, Below.refl _ _, fun j hj => absurd hj (by omega)⟩
          case round =>
            obtain ⟨q, rfl, hq, HBR, HSM⟩ := hrel
            have x4 : wr.cell? ⟨w.heap.size, 4, none⟩ = some (.slice o L c) := (kid_cellsI (below_blk HBR.out HK.out.1)).1.2.2.2.2
            have u4 : wr.cell? ⟨wa.heap.size, 4, none⟩ = some (.slice o' L c') := (kid_cellsI (below_blk HBR.out HK.out.2)).1.2.2.2.2
            by_cases hlt : q < L
            · have hlt' : (q : Int) < L := by omega
              have hq0 : (0 : Int) ≤ (q : Int) := by omega
              have hqm : (q : Int) ≤ 9223372036854775806 := by have := HLM.out; omega
              have HQL : Hid (q < L) := hlt
              obtain ⟨g, g', ho, ho', k1, n1, m1, a1, sl1, k2, n2, m2, a2, sl2, hkq⟩ := HKID.out q hlt (by trivial)
              subst ho
              subst ho'
              have HBW : Hid (Below w.heap.size w wr) := HB.out.trans (HBR.out.mono HB.out.size)
              obtain ⟨r1, r2, r3⟩ := hkq _ HBW.out
              clear r3
              obtain ⟨a0, b0, c0, d0, e0⟩ := r1
              obtain ⟨a9, b9, c9, d9, e9⟩ := r2
              have HKQ : Hid (∀ w1, Below w.heap.size w w1 → KidR w1 g q k1 n1 m1 a1 sl1 ∧ KidR w1 g' q k2 n2 m2 a2 sl2 ∧ Calls Tryz.prog 23 #[kidVI k1 n1 m1 a1 sl1, kidVI k2 n2 m2 a2 sl2] w1 (fun e w' => e = .returned (.bool (sm q)) ∧ Below w1.heap.size w1 w')) := hkq
              clear hkq hlt
              obtain ⟨F, hF⟩ : ∃ F, sm q = F := ⟨_, rfl⟩
              have HF : Hid (sm q = F) := hF
              clear hF
              go_wp2_with fail
              have s0 : (wr.cell? ⟨w.heap.size, 4, none⟩ = some (.slice (some ⟨g, 0, none⟩) L c) ∧ wr.cell? ⟨wa.heap.size, 4, none⟩ = some (.slice (some ⟨g', 0, none⟩) L c') ∧ wr.cell? ⟨g, q * 5, none⟩ = some (.int .i64 k1) ∧ wr.cell? ⟨g, q * 5 + 1, none⟩ = some (.string ⟨n1.toArray⟩) ∧ wr.cell? ⟨g, q * 5 + 2, none⟩ = some (.int .i64 m1) ∧ wr.cell? ⟨g, q * 5 + 3, none⟩ = some (.int .i64 a1) ∧ wr.cell? ⟨g, q * 5 + 4, none⟩ = some sl1 ∧ wr.cell? ⟨g', q * 5, none⟩ = some (.int .i64 k2) ∧ wr.cell? ⟨g', q * 5 + 1, none⟩ = some (.string ⟨n2.toArray⟩) ∧ wr.cell? ⟨g', q * 5 + 2, none⟩ = some (.int .i64 m2) ∧ wr.cell? ⟨g', q * 5 + 3, none⟩ = some (.int .i64 a2) ∧ wr.cell? ⟨g', q * 5 + 4, none⟩ = some sl2) := ⟨x4, u4, a0, b0, c0, d0, e0, a9, b9, c9, d9, e9⟩
              have s1 : ∀ i, ((wr.drewN i).cell? ⟨w.heap.size, 4, none⟩ = some (.slice (some ⟨g, 0, none⟩) L c) ∧ (wr.drewN i).cell? ⟨wa.heap.size, 4, none⟩ = some (.slice (some ⟨g', 0, none⟩) L c') ∧ (wr.drewN i).cell? ⟨g, q * 5, none⟩ = some (.int .i64 k1) ∧ (wr.drewN i).cell? ⟨g, q * 5 + 1, none⟩ = some (.string ⟨n1.toArray⟩) ∧ (wr.drewN i).cell? ⟨g, q * 5 + 2, none⟩ = some (.int .i64 m1) ∧ (wr.drewN i).cell? ⟨g, q * 5 + 3, none⟩ = some (.int .i64 a1) ∧ (wr.drewN i).cell? ⟨g, q * 5 + 4, none⟩ = some sl1 ∧ (wr.drewN i).cell? ⟨g', q * 5, none⟩ = some (.int .i64 k2) ∧ (wr.drewN i).cell? ⟨g', q * 5 + 1, none⟩ = some (.string ⟨n2.toArray⟩) ∧ (wr.drewN i).cell? ⟨g', q * 5 + 2, none⟩ = some (.int .i64 m2) ∧ (wr.drewN i).cell? ⟨g', q * 5 + 3, none⟩ = some (.int .i64 a2) ∧ (wr.drewN i).cell? ⟨g', q * 5 + 4, none⟩ = some sl2) := fun _ => s0
              go_region_held (fun w' => (w'.cell? ⟨w.heap.size, 4, none⟩ = some (.slice (some ⟨g, 0, none⟩) L c) ∧ w'.cell? ⟨wa.heap.size, 4, none⟩ = some (.slice (some ⟨g', 0, none⟩) L c') ∧ w'.cell? ⟨g, q * 5, none⟩ = some (.int .i64 k1) ∧ w'.cell? ⟨g, q * 5 + 1, none⟩ = some (.string ⟨n1.toArray⟩) ∧ w'.cell? ⟨g, q * 5 + 2, none⟩ = some (.int .i64 m1) ∧ w'.cell? ⟨g, q * 5 + 3, none⟩ = some (.int .i64 a1) ∧ w'.cell? ⟨g, q * 5 + 4, none⟩ = some sl1 ∧ w'.cell? ⟨g', q * 5, none⟩ = some (.int .i64 k2) ∧ w'.cell? ⟨g', q * 5 + 1, none⟩ = some (.string ⟨n2.toArray⟩) ∧ w'.cell? ⟨g', q * 5 + 2, none⟩ = some (.int .i64 m2) ∧ w'.cell? ⟨g', q * 5 + 3, none⟩ = some (.int .i64 a2) ∧ w'.cell? ⟨g', q * 5 + 4, none⟩ = some sl2)) (first | with_reducible exact s0 | with_reducible exact s1 _ | with_reducible exact s7 | exact s0) (first
                | (go_at_call 23
                   refine ((HKQ.out _ (belowT_drew HBW.out _)).2.2).mono ?_
                   rintro e w7 ⟨rfl, hB0⟩
                   have hB : Below wr.heap.size wr w7 := (belowT_drew (Below.refl _ _) _).trans hB0
                   have HB7 : Hid (Below wb.heap.size wb w7) := HBR.out.trans (hB.mono HBR.out.size)
                   have s7 : (w7.cell? ⟨w.heap.size, 4, none⟩ = some (.slice (some ⟨g, 0, none⟩) L c) ∧ w7.cell? ⟨wa.heap.size, 4, none⟩ = some (.slice (some ⟨g', 0, none⟩) L c') ∧ w7.cell? ⟨g, q * 5, none⟩ = some (.int .i64 k1) ∧ w7.cell? ⟨g, q * 5 + 1, none⟩ = some (.string ⟨n1.toArray⟩) ∧ w7.cell? ⟨g, q * 5 + 2, none⟩ = some (.int .i64 m1) ∧ w7.cell? ⟨g, q * 5 + 3, none⟩ = some (.int .i64 a1) ∧ w7.cell? ⟨g, q * 5 + 4, none⟩ = some sl1 ∧ w7.cell? ⟨g', q * 5, none⟩ = some (.int .i64 k2) ∧ w7.cell? ⟨g', q * 5 + 1, none⟩ = some (.string ⟨n2.toArray⟩) ∧ w7.cell? ⟨g', q * 5 + 2, none⟩ = some (.int .i64 m2) ∧ w7.cell? ⟨g', q * 5 + 3, none⟩ = some (.int .i64 a2) ∧ w7.cell? ⟨g', q * 5 + 4, none⟩ = some sl2) := by
                     have h1 := HBW.out.trans (hB.mono HBW.out.size)
                     obtain ⟨p1, p2, _⟩ := HKQ.out _ h1
                     exact ⟨(kid_cellsI (below_blk HB7.out HK.out.1)).1.2.2.2.2, (kid_cellsI (below_blk HB7.out HK.out.2)).1.2.2.2.2, p1.c0, p1.c1, p1.c2, p1.c3, p1.c4, p2.c0, p2.c1, p2.c2, p2.c3, p2.c4⟩
                   clear hB hB0))
              cases F with
              | true =>
                rw [HF.out]
                go_wp2
                go_roundw
                case rel => exact ⟨q + 1, by go_num, HQL.out, HB7, fun j hj => by rcases Nat.lt_succ_iff_lt_or_eq.1 hj with h | h; exact HSM.out j h; rw [h]; exact HF.out⟩
                case measure => have := HQL.out; simp [intOf]; omega
              | false =>
                rw [HF.out]
                go_wp2
                go_ret
                refine ⟨?_, HB.out.trans (HB7.out.mono HB.out.size)⟩
                rw [HH.out]
                have : (List.range L).all sm = false := by
                  rw [List.all_eq_false]
                  exact ⟨q, List.mem_range.2 HQL.out, by rw [HF.out]; decide⟩
                rw [this]
                rfl
            · have hqe : q = L := by omega
              subst hqe
              have hlt' : ¬ (q : Int) < q := by omega
              go_wp2
              go_ret
              refine ⟨?_, HB.out.trans (HBR.out.mono HB.out.size)⟩
              rw [HH.out]
              have : (List.range q).all sm = true := by
                rw [List.all_eq_true]
                intro x hx
                exact HSM.out x (List.mem_range.1 hx)
              rw [this]
              rfl
        · have j5 : ¬ (L : Int) = L' := by omega
          have j4 : ((L : Int) != L') = true := by simp; omega
          have HH : Hid (R = false) := by show _ = _; rw [← HR.out]; unfold sameHead; simp [h4]
          go_enter Tryz.func23, Tryz.ntmps23
          go_wp2
          go_ret
          rw [HH.out]
          exact ⟨rfl, HB.out⟩
      · have j3 : (m != m') = true := by simp [h3]
        have HH : Hid (R = false) := by show _ = _; rw [← HR.out]; unfold sameHead; simp [h3]
        go_enter Tryz.func23, Tryz.ntmps23
        go_wp2
        go_ret
        rw [HH.out]
        exact ⟨rfl, HB.out⟩
    | false =>
      have HH : Hid (R = false) := by show _ = _; rw [← HR.out]; unfold sameHead; rw [HE.out]; simp
      go_enter Tryz.func23, Tryz.ntmps23
      go_wp2
      go_ret
      rw [HH.out]
      exact ⟨rfl, HB.out⟩
  · have j1 : (k != k') = true := by simp [h1]
    have HH : Hid (R = false) := by show _ = _; rw [← HR.out]; unfold sameHead; simp [h1]
    go_enter Tryz.func23, Tryz.ntmps23
    go_wp2
    go_ret
    rw [HH.out]
    exact ⟨rfl, HB.out⟩
end Go.Proofs.YteokdknaadckbaaGreatDoor
namespace Go.Proofs.YteokdknaadckbaaGreatDoor
open Go.RowKit

mutual
def sameP : ITree → ITree → Bool
  | .node k n m _ ks, .node k' n' m' _ ks' => sameHead k k' n n' m m' ks.length ks'.length && samesP ks ks'
def samesP : List ITree → List ITree → Bool
  | t :: ts, us => (match us with | [] => true | u :: us => sameP t u && samesP ts us)
  | [], _ => true
end
theorem samesP_iff : (ks ks' : List ITree) → ks.length = ks'.length → (samesP ks ks' = true ↔ ∀ j (h1 : j < ks.length) (h2 : j < ks'.length), sameP ks[j] ks'[j] = true)
  | [], _, _ => by rw [samesP]; simp
  | t :: ts, [], h => by simp at h
  | t :: ts, u :: us, h => by
    rw [samesP]
    simp only [Bool.and_eq_true]
    rw [samesP_iff ts us (by simpa using h)]
    constructor
    · rintro ⟨h1, h2⟩ j hj hj'
      cases j with
      | zero => exact h1
      | succ j => exact h2 j (by simpa using hj) (by simpa using hj')
    · intro h1
      exact ⟨h1 0 (by simp) (by simp), fun j hj hj' => h1 (j + 1) (by simpa using hj) (by simpa using hj')⟩
def smAt (ks ks' : List ITree) (j : Nat) : Bool := match ks[j]?, ks'[j]? with | some a, some b => sameP a b | _, _ => true
theorem smAt_all (ks ks' : List ITree) (h : ks.length = ks'.length) : (List.range ks.length).all (smAt ks ks') = samesP ks ks' := by
  rw [Bool.eq_iff_iff, samesP_iff ks ks' h, List.all_eq_true]
  constructor
  · intro h1 j hj hj'
    have := h1 j (List.mem_range.2 hj)
    unfold smAt at this
    rw [List.getElem?_eq_getElem hj, List.getElem?_eq_getElem hj'] at this
    exact this
  · intro h1 j hj
    have hj := List.mem_range.1 hj
    have hj' : j < ks'.length := by omega
    unfold smAt
    rw [List.getElem?_eq_getElem hj, List.getElem?_eq_getElem hj']
    exact h1 j hj hj'
theorem kid_size {k m a : Int} {n : List UInt8} {ks : List ITree} {j : Nat} (h : j < ks.length) : SizeOf.sizeOf ks[j] < SizeOf.sizeOf (ITree.node k n m a ks) := by
  have := List.sizeOf_lt_of_mem (List.getElem_mem h)
  simp
  omega
theorem same_any : (N : Nat) → (t u : ITree) → SizeOf.sizeOf t ≤ N → ∀ (B B' : Nat) (w : World) (v v' : Value), TreeR B w t v → TreeR B' w u v' → B ≤ w.heap.size → B' ≤ w.heap.size → Calls Tryz.prog 23 #[v, v'] w (fun e w' => e = .returned (.bool (sameP t u)) ∧ Below w.heap.size w w')
  | 0, .node k n m a ks, _, h => by simp at h
  | N + 1, .node k n m a ks, .node k' n' m' a' ks', hN => by
    intro B B' w v v' ht hu hB hB'
    rw [treeR_node] at ht hu
    obtain ⟨o, c, rfl, h2, h3, h4, h5, h6⟩ := ht
    obtain ⟨o', c', rfl, i2, i3, i4, i5, i6⟩ := hu
    have hsz : ∀ j (h : j < ks.length), SizeOf.sizeOf ks[j] ≤ N := fun j h => by
      have := kid_size (k := k) (n := n) (m := m) (a := a) h
      omega
    refine (same_core k n m a o ks.length c k' n' m' a' o' ks'.length c' w (Nat.le_trans h2 h3) (smAt ks ks') ?_).mono ?_
    · intro j hj hll
      have hj' : j < ks'.length := by omega
      rcases h6 with h6 | ⟨g, rfl, hg, hr⟩
      · subst h6; simp at hj
      rcases i6 with i6 | ⟨g', rfl, hg', hr'⟩
      · subst i6; simp at hj'
      refine ⟨g, g', rfl, rfl, ?_⟩
      obtain ⟨k1, n1, m1, a1, us, he⟩ : ∃ k1 n1 m1 a1 us, ks[j] = .node k1 n1 m1 a1 us := by cases ks[j]; exact ⟨_, _, _, _, _, rfl⟩
      obtain ⟨k2, n2, m2, a2, us', he'⟩ : ∃ k1 n1 m1 a1 us, ks'[j] = .node k1 n1 m1 a1 us := by cases ks'[j]; exact ⟨_, _, _, _, _, rfl⟩
      obtain ⟨o1, c1, hk, htr⟩ := kid_get hr j hj k1 m1 a1 n1 us he
      obtain ⟨o2, c2, hk', htr'⟩ := kid_get hr' j hj' k2 m2 a2 n2 us' he'
      refine ⟨k1, n1, m1, a1, _, k2, n2, m2, a2, _, fun w1 hw => ⟨hk.frame (hw.block g (by omega)), hk'.frame (hw.block g' (by omega)), ?_⟩⟩
      have hs : smAt ks ks' j = sameP (.node k1 n1 m1 a1 us) (.node k2 n2 m2 a2 us') := by
        unfold smAt
        rw [List.getElem?_eq_getElem hj, List.getElem?_eq_getElem hj', he, he']
      rw [hs]
      exact same_any N _ _ (he ▸ hsz j hj) B B' w1 _ _ (htr.frame (Nat.le_refl _) (fun b hb => hw.block b (by omega))) (htr'.frame (Nat.le_refl _) (fun b hb => hw.block b (by omega))) (Nat.le_trans hB hw.size) (Nat.le_trans hB' hw.size)
    · rintro e w' ⟨rfl, h⟩
      refine ⟨?_, h⟩
      rw [sameP]
      by_cases hll : ks.length = ks'.length
      · rw [smAt_all ks ks' hll]
      · have : sameHead k k' n n' m m' ks.length ks'.length = false := by unfold sameHead; simp [hll]
        rw [this]
        rfl
end Go.Proofs.YteokdknaadckbaaGreatDoor
namespace Go.Proofs.YteokdknaadckbaaGreatDoor
open Go.RowKit Go.Lib

def exTree : Tree := .node 1 [] 0 0 [.node 2 [65] 0 6 [.node 28 [] 16 10 []]]
def exNum : ITree := .node 28 [] 16 10 []
def exKid : ITree := .node 2 [65] 0 6 [exNum]
def exI : ITree := .node 1 [] 0 0 [exKid]
theorem ex_toI : exTree.toI = exI := by kernel_rfl
theorem parse_ex : parseP [99, 111, 110, 115, 116, 32, 65, 32, 61, 32, 48, 120, 49, 48, 59] = .ok exTree := by kernel_rfl
theorem parse_ex2 : parseP [116, 121, 112, 101, 100, 101, 102, 32, 118, 111, 105, 100, 59] = .err 40 8 := by kernel_rfl
theorem ex_ok : TreeOk exTree := by
  unfold exTree
  simp [TreeOk, TreesOk, maxLen]
/-- the example's tree as it lies -/
structure ExAt (w : World) (g c g1 c1 : Nat) (o2 : Option Addr) (c2 : Nat) : Prop where
  top : TreeR w.heap.size w exI (kidVI 1 [] 0 0 (.slice (some ⟨g, 0, none⟩) 1 c))
  one : TreeR w.heap.size w exKid (kidVI 2 [65] 0 6 (.slice (some ⟨g1, 0, none⟩) 1 c1))
  kid : KidR w g 0 2 [65] 0 6 (.slice (some ⟨g1, 0, none⟩) 1 c1)
  num : KidR w g1 0 28 [] 16 10 (.slice o2 0 c2)
  lt : g < w.heap.size
  lt1 : g1 < w.heap.size
theorem ExAt.below {w w' : World} {g c g1 c1 : Nat} {o2 : Option Addr} {c2 : Nat} (h : ExAt w g c g1 c1 o2 c2) (hB : Below w.heap.size w w') : ExAt w' g c g1 c1 o2 c2 :=
  ⟨h.top.frame hB.size hB.block, h.one.frame hB.size hB.block, h.kid.frame (hB.block g h.lt), h.num.frame (hB.block g1 h.lt1), Nat.lt_of_lt_of_le h.lt hB.size, Nat.lt_of_lt_of_le h.lt1 hB.size⟩
theorem ex_at {B : Nat} {w : World} {v : Value} (h : treeIs B exTree w v) : ∃ g c g1 c1 o2 c2, v = kidVI 1 [] 0 0 (.slice (some ⟨g, 0, none⟩) 1 c) ∧ ExAt w g c g1 c1 o2 c2 := by
  have ht := TreeAt.toR exTree v ex_ok h
  rw [ex_toI] at ht
  have ht0 := ht
  unfold exI at ht
  rw [treeR_node] at ht
  obtain ⟨o, c, rfl, _, _, _, _, h6⟩ := ht
  rcases h6 with h6 | ⟨g, rfl, hg, hr⟩
  · cases h6
  obtain ⟨o1, c1, hk, hk2⟩ := kid_get hr 0 (by simp) 2 0 6 [65] [exNum] rfl
  have hk3 := hk2
  rw [treeR_node] at hk2
  obtain ⟨o1', c1', he, _, _, _, _, h7⟩ := hk2
  unfold kidVI at he
  have he := congrArg (fun v => match v with | Value.agg l => l.toList | _ => []) he
  simp at he
  obtain ⟨rfl, rfl⟩ := he
  rcases h7 with h7 | ⟨g1, rfl, hg1, hr1⟩
  · cases h7
  obtain ⟨o2, c2, hk4, _⟩ := kid_get hr1 0 (by simp) 28 16 10 [] [] rfl
  exact ⟨g, c, g1, c1, o2, c2, rfl, ht0, hk3, hk, hk4, hg, hg1⟩
theorem ex_same {w : World} {g c g1 c1 : Nat} {o2 : Option Addr} {c2 : Nat} (h : ExAt w g c g1 c1 o2 c2) : Calls Tryz.prog 23 #[kidVI 1 [] 0 0 (.slice (some ⟨g, 0, none⟩) 1 c), kidVI 1 [] 0 0 (.slice (some ⟨g, 0, none⟩) 1 c)] w (fun e w' => e = .returned (.bool true) ∧ Below w.heap.size w w') :=
  same_any _ exI exI (Nat.le_refl _) _ _ w _ _ h.top h.top (Nat.le_refl _) (Nat.le_refl _)
theorem ex_other {w : World} {g c g1 c1 : Nat} {o2 : Option Addr} {c2 : Nat} (h : ExAt w g c g1 c1 o2 c2) : Calls Tryz.prog 23 #[kidVI 1 [] 0 0 (.slice (some ⟨g, 0, none⟩) 1 c), kidVI 2 [65] 0 6 (.slice (some ⟨g1, 0, none⟩) 1 c1)] w (fun e w' => e = .returned (.bool false) ∧ Below w.heap.size w w') :=
  same_any _ exI exKid (Nat.le_refl _) _ _ w _ _ h.top h.one (Nat.le_refl _) (Nat.le_refl _)
theorem itoa16 : itoa 16 = [49, 54] := by
  rw [show (16 : Int) = ((16 : Nat) : Int) from rfl, itoa_nonneg, decDigits_two (by decide) (by decide)]
  rfl
theorem itoa_small16 (w : World) : Calls Tryz.prog 130 #[.int .i64 16] w fun e w' => e = .returned (.string ⟨(itoa 16).toArray⟩) ∧ Below w.heap.size w w' := by
  refine (Tryz.strconv_Itoa_small 16 (by decide) w).mono ?_
  rintro e w' ⟨rfl, rfl⟩
  refine ⟨?_, Below.refl _ _⟩
  rw [show (16 : Int) = ((16 : Nat) : Int) from rfl, itoa_nonneg]
theorem ex_text : psourceP (fun _ => pconstP [65] 0 1 28 [] 16 0) 1 [] 0 [exKid] [] = some [99, 111, 110, 115, 116, 32, 65, 61, 49, 54, 59] := by
  unfold psourceP defsP pconstP pnumP
  rw [itoa16]
  kernel_rfl
theorem ex_print {w : World} {g c g1 c1 : Nat} {o2 : Option Addr} {c2 : Nat} (h : ExAt w g c g1 c1 o2 c2) : Calls Tryz.prog 20 #[kidVI 1 [] 0 0 (.slice (some ⟨g, 0, none⟩) 1 c)] w (PrintPost (some [99, 111, 110, 115, 116, 32, 65, 61, 49, 54, 59]) w) := by
  refine print_any 1 [] 0 0 (some ⟨g, 0, none⟩) 1 c _ w (fun w1 p hp hB hP => ?_)
  have h1 := h.below hB
  have hlt := h.lt
  have hlt1 := h.lt1
  have hx := psource_any p 1 [] 0 0 (some ⟨g, 0, none⟩) [exKid] c g [] 0 (.slice none 0 0) w1 hP (by simp) (by simp) (fun _ => pconstP [65] 0 1 28 [] 16 0) (fun j hj => by
    have hj : j = 0 := by simp at hj; omega
    subst hj
    refine ⟨rfl, by omega, 2, [65], 0, 6, _, _, _, h1.kid, fun w2 txt v hPv hx hf => ?_⟩
    exact pconst_any p [65] 0 6 (some ⟨g1, 0, none⟩) 1 c1 g1 28 [] 16 10 o2 0 c2 txt 0 v w2 hPv hx (by simp [maxLen]) (by decide) (by decide) (fun m => m = 16) rfl (by
      rintro m rfl w3 _
      exact itoa_small16 w3) (fun _ => ⟨rfl, by omega, h1.num.frame (hf g1 (by omega))⟩))
  rw [ex_text] at hx
  exact hx
theorem none_print (w : World) : Calls Tryz.prog 20 #[kidVI 99 [] 0 0 (.slice none 0 0)] w (PrintPost none w) := by
  refine print_any 99 [] 0 0 none 0 0 _ w (fun w1 p hp hB hP => ?_)
  exact psource_any p 99 [] 0 0 none [] 0 0 [] 0 (.slice none 0 0) w1 hP (by simp) (by simp) (fun _ _ => none) (fun j hj => by simp at hj)
end Go.Proofs.YteokdknaadckbaaGreatDoor
