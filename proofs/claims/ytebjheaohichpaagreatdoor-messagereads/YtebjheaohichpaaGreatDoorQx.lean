/- What any text is. -/
import Derived.Test.YtebjheaohichpaaGreatDoorPb
namespace Go.Proofs.YtebjheaohichpaaGreatDoor
open Go.RowKit
theorem pc_may {c : CallP} (h : c.may) : pcP c = (c.lay, 0) := by unfold pcP prM; rw [if_pos h]
theorem pr_may {r : ReplyP} (h : r.may) : prP r = (r.lay, 0) := by unfold prP prM; rw [if_pos h]
theorem not_reply {c : CallP} (h : c.may) : parseR c.lay = (nulR, 121) := by
  rcases parseR_form c.lay with ⟨_, h1, _⟩ | h1
  · rcases parseC_form c.lay with ⟨_, h2, _⟩ | h2
    · rw [h1] at h2; exact absurd h2 (by decide)
    · rw [parseC_there c h] at h2; exact absurd (congrArg Prod.snd h2) (by show ¬ (0 : Int) = 121; decide)
  · exact h1
theorem not_call {r : ReplyP} (h : r.may) : parseC r.lay = (nulC, 121) := by
  rcases parseC_form r.lay with ⟨_, h1, _⟩ | h1
  · rcases parseR_form r.lay with ⟨_, h2, _⟩ | h2
    · rw [h1] at h2; exact absurd h2 (by decide)
    · rw [parseR_there r h] at h2; exact absurd (congrArg Prod.snd h2) (by show ¬ (0 : Int) = 121; decide)
  · exact h1
/-- what any text is -/
inductive Is (s : List UInt8) (A : CallP) (l : Int) (B : ReplyP) (m : Int) : Prop
  | call : l = 0 → m = 121 → B = nulR → A.rpc = 2 → A.may → A.lay = s → Is s A l B m
  | other : l = 0 → m = 121 → B = nulR → A.rpc ≠ 2 → Is s A l B m
  | reply : l = 121 → A = nulC → m = 0 → B.may → B.lay = s → Is s A l B m
  | none : l = 121 → A = nulC → m = 121 → B = nulR → Is s A l B m
theorem what_is (s : List UInt8) : Is s (parseC s).1 (parseC s).2 (parseR s).1 (parseR s).2 := by
  rcases parseC_form s with ⟨h1, h2, h3⟩ | h1
  · rcases parseR_form s with ⟨_, k2, _⟩ | k1
    · rw [h2] at k2; exact absurd k2 (by decide)
    · rw [k1]
      by_cases h4 : (parseC s).1.rpc = 2
      · exact .call h1 rfl rfl h4 (h3 h4).1 (h3 h4).2.symm
      · exact .other h1 rfl rfl h4
  · rw [h1]
    rcases parseR_form s with ⟨k1, _, k3, k4⟩ | k1
    · exact .reply rfl rfl k1 k3 k4.symm
    · rw [k1]
      exact .none rfl rfl rfl rfl
theorem reply_len {r : ReplyP} (h : r.may) : r.results.length ≤ 140737488355328 := by
  obtain ⟨rx, rd, rv, ra, rl, rh, rr, rj, rw_⟩ := r
  obtain ⟨_, h2⟩ := h
  cases rd
  · simp only [Bool.false_eq_true, if_false] at h2
    obtain ⟨_, _, _, _, _, h7⟩ := h2
    rcases h7 with ⟨_, a1, _⟩ | ⟨_, _, _, rfl⟩ | ⟨_, _, _, _, rfl⟩
    · exact Nat.le_trans a1.1 (by decide)
    · exact Nat.zero_le _
    · exact Nat.zero_le _
  · simp only [if_true] at h2
    obtain ⟨_, _, rfl, _⟩ := h2
    exact Nat.zero_le _
end Go.Proofs.YtebjheaohichpaaGreatDoor
