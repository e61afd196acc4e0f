/- Four times a narrow number. -/
import Derived.Test.YtpimdiliibokbaaBoFd
namespace Go.Proofs.Ytpimdiliibokbaa
namespace Fl
open Ieee
theorem mul_four (a : Nat) (ha : a < 2139095040) : single.mul 1082130432 a = some (min (RG 23 0 (4 * sizeOf single a)) 2139095040) := by
  have hr := read_number single false a (by rw [inf32]; exact ha)
  have h4 : single.read 1082130432 = .number false 8388608 (-21) := by decide
  have hw : single.word false a = a := rfl
  rw [hw] at hr
  have hns := near_size32 single false a 2
  have hsh : single.nearest false (4 * sizeOf single a) (-149) = single.nearest false (sizeOf single a) (-149 + 2) := by
    by_cases h0 : sizeOf single a = 0
    · rw [h0, nearest_zero, nearest_zero]
    · have := nearest_shift single false (sizeOf single a) 2 (-149) h0
      rw [show sizeOf single a * 2 ^ 2 = 4 * sizeOf single a by omega] at this
      exact this
  rw [near32z] at hsh
  have hw2 : single.word false (min (RG 23 0 (4 * sizeOf single a)) 2139095040) = min (RG 23 0 (4 * sizeOf single a)) 2139095040 := word_false _ _
  rw [← hw2, hsh, ← hns]
  unfold Format.mul
  rw [hr, h4]
  show some (single.nearest (false ^^ false) (8388608 * magOf single a) (-21 + placeOf single a)) = _
  have e3 : (8388608 : Nat) = 2 ^ 23 := by decide
  have e2 : (8388608 * magOf single a) = magOf single a * 2 ^ 23 := by rw [e3, Nat.mul_comm]
  by_cases h0 : magOf single a = 0
  · rw [h0]; simp [nearest_zero]
  · rw [e2, nearest_shift single _ _ _ _ h0]
    congr 2; omega
end Fl
end Go.Proofs.Ytpimdiliibokbaa
