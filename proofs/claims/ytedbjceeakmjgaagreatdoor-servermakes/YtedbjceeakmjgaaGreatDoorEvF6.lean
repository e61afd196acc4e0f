/- The evaluator of closed runs: EvF6 -/
import Derived.Test.YtedbjceeakmjgaaGreatDoorEvF5
namespace Go.Proofs.YtedbjceeakmjgaaGreatDoor.Ev
set_option linter.unusedSimpArgs false

section
variable {P : Program}

theorem wrap_small (n : Nat) (h : n ≤ 1048576) : IntKind.i64.wrap (n : Int) = (n : Int) := by
  simp only [IntKind.wrap, IntKind.bits, IntKind.signed]
  simp
  omega

theorem f_makeSlice {f : Ren} {w : World} {t : TypeId} {l l' c c' : Value} {fr : FR} (hl : VR f l l') (hc : VR f c c') (he : fMakeSlice P t l c = some fr) :
    FOK P f w ((Instr.makeSlice t l' c').run P w) fr := by
  unfold fMakeSlice at he
  split at he
  · rename_i a b ha hb
    obtain ⟨k1, rfl⟩ := hl.natV ha
    obtain ⟨k2, rfl⟩ := hc.natV hb
    split at he
    · rename_i e n hel
      obtain ⟨hu, hs⟩ := elemP_eq hel
      split at he
      · rename_i i hi
        split at he
        · rename_i z hz
          split at he
          · rename_i hcc
            cases he
            simp only [Bool.and_eq_true] at hcc
            obtain ⟨⟨⟨⟨hg, h1⟩, h2⟩, h3⟩, h4⟩ := hcc
            have h1 : a ≤ b := Nat.le_of_ble_eq_true h1
            have h2 : b ≤ 1048576 := Nat.le_of_ble_eq_true h2
            have h3 : i.bytes * b ≤ 1073741824 := Nat.le_of_ble_eq_true h3
            have h4 : (cellsA z).length = n + 1 := Nat.eq_of_beq_eq_true h4
            have hzl : VL f (cellsA z) (cellsA z) := (vr_ground 3 z hg).cells
            have wa := wrap_small a (by omega)
            have wb := wrap_small b h2
            have hbig : ¬ ((i.bytes : Int) * (b : Int) > 2 ^ 48) := by
              have := Int.ofNat_le.2 h3
              rw [Int.natCast_mul] at this
              have h5 : (2 : Int) ^ 48 = 281474976710656 := rfl
              rw [h5]
              generalize (i.bytes : Int) * (b : Int) = m at this ⊢
              have h6 : ((1073741824 : Nat) : Int) = 1073741824 := rfl
              omega
            have hrun : (Instr.makeSlice t (.int k1 (.ofNat a)) (.int k2 (.ofNat b))).run P w =
                .ok (.slice (some ⟨w.heap.size, 0, none⟩) a b) { w with heap := w.heap.push (.cells ⟨rep (cellsA z) b⟩ e) } := by
              have ha0 : ¬ ((a : Int) < 0) := by omega
              have hb0 : ¬ ((b : Int) < 0) := by omega
              have hab : ¬ ((a : Int) > (b : Int)) := by omega
              have hcond : (decide ((b : Int) < 0) || decide ((i.bytes : Int) * (b : Int) > 2 ^ 48) || decide ((a : Int) < 0) || decide ((a : Int) > (b : Int))) = false := by
                simp only [ha0, hb0, hab, hbig, decide_false, Bool.or_false]
              by_cases h0 : b * (n + 1) = 0
              · have hb : b = 0 := by
                  rcases Nat.mul_eq_zero.1 h0 with h | h
                  · exact h
                  · omega
                have hr : ∀ g : Nat → Value, Array.map g (Array.range (b * (n + 1))) = ⟨rep (cellsA z) b⟩ := fun g => by subst hb; simp [rep]
                simp only [Instr.makeSlice, Sem.run_bind, run_underlying hu, Result.andThen_ok, asInt, asIntOf, Sem.run_pure, run_typeInfo w hi, Int.ofNat_eq_natCast, wa, wb]
                rw [if_neg (by rw [hcond]; simp)]
                simp only [Sem.run_bind, run_askRoom, Result.andThen_ok, run_sz hs, Int.toNat_natCast, h0, if_true, Sem.run_pure, newRow, run_newObj]
                rw [← h0, hr]
              · have hrow := zeros_eq (cellsA z) b (n + 1) h4 (Nat.succ_pos n)
                simp only [Instr.makeSlice, Sem.run_bind, run_underlying hu, Result.andThen_ok, asInt, asIntOf, Sem.run_pure, run_typeInfo w hi, Int.ofNat_eq_natCast, wa, wb]
                rw [if_neg (by rw [hcond]; simp)]
                simp only [Sem.run_bind, run_askRoom, Result.andThen_ok, run_sz hs, Int.toNat_natCast, h0, if_false, Sem.run_pure, newRow, run_newObj, run_zv hz, cellsA_eq, hrow]
            refine ⟨rep (cellsA z) b, b, _, (0, 0), hrun, rfl, ⟨rfl, rfl, rfl⟩, ⟨n + 1, hs, h1, fun _ => ⟨rfl, ?_⟩, fun hb0 => ?_⟩, fun j _ => by omega, Nat.le_refl _, fun i v hv => ⟨v, hv, ?_⟩⟩
            · rw [rep_len, h4]; exact Nat.le_refl _
            · rw [rep_len, h4]
            · exact (rep_VL hzl b).at i v v hv hv
          · cases he
        · cases he
      · cases he
    · cases he
  · cases he

end
end Go.Proofs.YtedbjceeakmjgaaGreatDoor.Ev
