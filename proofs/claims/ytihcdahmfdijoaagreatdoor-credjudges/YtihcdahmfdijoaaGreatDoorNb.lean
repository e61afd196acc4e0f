/- CredBack, plainly: who is let in. -/
import Derived.Test.YtihcdahmfdijoaaGreatDoorCs
namespace Go.Proofs.YtihcdahmfdijoaaGreatDoor
open Go.RowKit
theorem ba_toList (l : List UInt8) : (⟨l.toArray⟩ : ByteArray).toList = l := by rw [ByteArray.toList_eq]
theorem nob_eq (f : Int) (l : List UInt8) : nob f ⟨l.toArray⟩ = (f == 0 && l == []) := by unfold nob; rw [ba_toList]
theorem pmP_ok {f : Int} {b : List UInt8} (h : (pmP f b).2 = 0) : f = 1296126539 ∧ (pmP f b).1.may ∧ b = (pmP f b).1.body := by
  unfold pmP at h ⊢
  by_cases hf : f ≠ 1296126539
  · rw [if_pos hf] at h; cases h
  · rw [if_neg hf] at h ⊢
    cases hr : readM b with
    | none => rw [hr] at h; cases h
    | some m =>
      obtain ⟨h1, h2⟩ := (readM_iff b m).1 hr
      exact ⟨Decidable.not_not.1 hf, h1, h2⟩
theorem psP_ok {f : Int} {b : List UInt8} (h : (psP f b).2 = 0) : f = 1 ∧ (psP f b).1.may ∧ b = (psP f b).1.body := by
  unfold psP at h ⊢
  by_cases hf : f ≠ 1
  · rw [if_pos hf] at h; cases h
  · rw [if_neg hf] at h ⊢
    cases hr : readS b with
    | none => rw [hr] at h; cases h
    | some m =>
      obtain ⟨h1, h2⟩ := (readS_iff b m).1 hr
      exact ⟨Decidable.not_not.1 hf, h1, h2⟩
theorem bad_zero (g : Bool) : bad g = 0 ↔ g = true := by cases g <;> simp [bad]
/-- whether a mark is told -/
theorem jP_is (xid cf : Int) (cr : List UInt8) (vf : Int) (vb : List UInt8) : (jP xid cf cr vf vb).2.1 = (((pmP cf cr).2 == 0) && (((pmP cf cr).1.seq == xid) && (decide ((pmP cf cr).1.water ≤ (pmP cf cr).1.seq) && (vf == 0 && vb == [])))) := by
  unfold jP
  rw [nob_eq]
  by_cases hf : cf = 1296126539
  · have e : jcP cf cr xid = ((pmP cf cr).1, true, bad (markOk (pmP cf cr) xid)) := by
      subst hf; unfold jcP; rw [if_neg (by decide), if_neg (by decide), if_pos rfl]
    rw [e]
    simp only
    unfold markOk
    cases h1 : ((pmP cf cr).2 == 0)
    · simp [bad]
    · cases h2 : ((pmP cf cr).1.seq == xid)
      · simp [bad]
      · cases h3 : decide ((pmP cf cr).1.water ≤ (pmP cf cr).1.seq)
        · simp [bad]
        · cases h4 : (vf == 0 && vb == [])
          · simp [bad]
          · simp [bad]
  · have h0 : ((pmP cf cr).2 == 0) = false := by unfold pmP; rw [if_pos hf]; rfl
    rw [h0, Bool.false_and]
    have h1 : (jcP cf cr xid).2.1 = false := by
      unfold jcP
      by_cases a : cf = 0
      · rw [if_pos a]
      · rw [if_neg a]
        by_cases b : cf = 1
        · rw [if_pos b]
        · rw [if_neg b, if_neg hf]
    split
    · split
      · exact h1
      · rfl
    · rfl
/-- what is told then -/
theorem jP_true {xid cf : Int} {cr : List UInt8} {vf : Int} {vb : List UInt8} (h : (jP xid cf cr vf vb).2.1 = true) :
    jP xid cf cr vf vb = ((pmP cf cr).1, true, 0) ∧ (pmP cf cr).2 = 0 ∧ (pmP cf cr).1.seq = xid ∧ (pmP cf cr).1.water ≤ (pmP cf cr).1.seq ∧ vf = 0 ∧ vb = [] := by
  have h1 := h
  rw [jP_is] at h1
  simp only [Bool.and_eq_true, beq_iff_eq, decide_eq_true_eq] at h1
  obtain ⟨h2, h3, h4, h5, h6⟩ := h1
  refine ⟨?_, h2, h3, h4, h5, h6⟩
  obtain ⟨hf, _, _⟩ := pmP_ok h2
  have e : jcP cf cr xid = ((pmP cf cr).1, true, 0) := by
    subst hf
    unfold jcP
    rw [if_neg (by decide), if_neg (by decide), if_pos rfl]
    have : markOk (pmP 1296126539 cr) xid = true := by unfold markOk; simp [h2, h3]; rw [← h3]; exact h4
    rw [this]; rfl
  unfold jP
  rw [e, if_pos rfl, if_pos (by rw [nob_eq, h5, h6]; rfl)]
theorem OwnI.caps {w : World} {base : Nat} {a : Option Addr} {n cap : Nat} {gs : List Int} (h : OwnI w base (.slice a n cap) gs) : gs.length ≤ cap ∧ (gs.length : Int) ≤ 9223372036854775807 := by
  rcases h.2 with ⟨h1, h2⟩ | ⟨g, c, cur, h1, _, _, h4, h5, _⟩
  · have : gs.length = 0 := h2
    omega
  · cases h1
    have h6 : cap ≤ 9223372036854775807 := Nat.le_trans h5 (by decide)
    omega
end Go.Proofs.YtihcdahmfdijoaaGreatDoor
