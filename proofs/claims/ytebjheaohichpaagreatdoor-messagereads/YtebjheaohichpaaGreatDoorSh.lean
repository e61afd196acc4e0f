/- The law's reads: any text, read by the program and by the document. -/
import Derived.Test.YtebjheaohichpaaGreatDoorSe
import Derived.Test.YtebjheaohichpaaGreatDoorGr
import Derived.Test.YtebjheaohichpaaGreatDoorMx
import Derived.Test.YtebjheaohichpaaGreatDoorPa
namespace Go.Proofs.YtebjheaohichpaaGreatDoor
open Go.RowKit
theorem go_len0 {st : Rs} {x : Nat × Rs} (h : st.go 0 rdWord = x) : x.2.l.length ≤ st.l.length := by rw [← h]; exact go_len _ _ _
theorem dparseReply_any (s : List UInt8) (w : World) (hl : s.length ≤ 140737488355328) :
    Calls Tryz.prog 32 #[.string ⟨s.toArray⟩] w fun e w' => e = .returned (.tuple #[.agg (replyV (parseR s).1).toArray, .int .i64 (parseR s).2]) ∧ Below w.heap.size w w' := by
  rw [← drP_is]
  obtain ⟨x, hx⟩ : ∃ y, (⟨s, 0⟩ : Rs).go 0 rdWord = y := ⟨_, rfl⟩
  obtain ⟨k, hk⟩ : ∃ y, x.2.go 0 rdWord = y := ⟨_, rfl⟩
  obtain ⟨d, hd⟩ : ∃ y, k.2.go 0 rdWord = y := ⟨_, rfl⟩
  have l1 : x.2.l.length ≤ s.length := go_len0 hx
  have l2 := go_len0 hk
  have l3 := go_len0 hd
  unfold drP
  simp only [hx, hk, hd]
  by_cases k1 : (k.1 : Int) = 1
  · by_cases d1 : 1 < (d.1 : Int)
    · rw [if_pos (.inr d1)]
      exact dpr_E s w x k d hx hk hd k1 d1
    · rw [if_neg (fun o => o.elim (fun z => z k1) d1)]
      by_cases d2 : (d.1 : Int) = 1
      · rw [if_pos d2]
        obtain ⟨j, hj⟩ : ∃ y, d.2.go 0 rdWord = y := ⟨_, rfl⟩
        obtain ⟨y, hy⟩ : ∃ y, j.2.go 0 rdWord = y := ⟨_, rfl⟩
        obtain ⟨hi, hhi⟩ : ∃ z, y.2.go 0 rdWord = z := ⟨_, rfl⟩
        unfold rdDen
        simp only [hj, hy, hhi]
        by_cases j1 : j.1 = 1
        · rw [if_pos j1]
          exact dpr_A s w x k d j y hx hk hd hj hy k1 d2 (by omega) (by simp) _ (by rw [j1]; rfl) _ rfl
        · rw [if_neg j1]
          exact dpr_B s w x k d j y hi hx hk hd hj hy hhi k1 d2 (by omega) (by simp) _ rfl _ rfl
      · rw [if_neg d2]
        have d0 : (d.1 : Int) = 0 := by omega
        obtain ⟨c, hc⟩ : ∃ y, rdAuth d.2 = y := ⟨_, rfl⟩
        obtain ⟨a, ha⟩ : ∃ y, c.2.go 0 rdWord = y := ⟨_, rfl⟩
        obtain ⟨lo, hlo⟩ : ∃ y, a.2.go 0 rdWord = y := ⟨_, rfl⟩
        obtain ⟨hi, hhi⟩ : ∃ y, lo.2.go 0 rdWord = y := ⟨_, rfl⟩
        have l4 : c.2.l.length ≤ d.2.l.length := by rw [← hc]; exact Nat.le_trans (go_len _ _ _) (go_len _ _ _)
        have l5 := go_len0 ha
        have l6 := go_len0 hlo
        have l7 := go_len0 hhi
        have hrest : ∀ st : Rs, (st.go [] rdRest).1.length ≤ st.l.length := fun st => by
          unfold Rs.go rdRest
          split
          · simp
          · simp
        unfold drAcc
        simp only [hc, ha, hlo, hhi]
        by_cases j1 : a.1 = 2
        · rw [if_pos j1]
          exact dpr_C s w x k d c a lo hi _ hx hk hd hc ha hlo hhi rfl k1 d0 (by omega) (by have := hrest hi.2; omega) _ (by rw [j1]; rfl) _ rfl
        · rw [if_neg j1]
          exact dpr_D s w x k d c a _ hx hk hd hc ha rfl k1 d0 (by omega) (by have := hrest a.2; omega) _ rfl _ rfl
  · rw [if_pos (.inl k1)]
    exact dpr_K s w x k d hx hk hd k1
set_option maxRecDepth 8000 in
set_option maxHeartbeats 8000000 in
theorem reads_any (s : List UInt8) (w : World) (hT : ErrT w) (hl : s.length ≤ 140737488355328) :
    Calls Tryz.prog 10 #[.string ⟨s.toArray⟩] w fun e w' => e = .returned (.bool true) ∧ Below w.heap.size w w' := by
  obtain ⟨C, hC⟩ : ∃ C, (parseC s).1 = C := ⟨_, rfl⟩
  obtain ⟨E, hE⟩ : ∃ C, (parseC s).2 = C := ⟨_, rfl⟩
  obtain ⟨Q, hQ⟩ : ∃ C, (parseR s).1 = C := ⟨_, rfl⟩
  obtain ⟨G, hG⟩ : ∃ C, (parseR s).2 = C := ⟨_, rfl⟩
  have H1 := hid (parseCall_any s w hT (by omega))
  have H2 : Hid (∀ w, Calls Tryz.prog 30 #[.string ⟨s.toArray⟩] w fun e w' => e = .returned (.tuple #[.agg (callV C).toArray, .int .i64 E]) ∧ Below w.heap.size w w') := fun w => by have := dparseCall_any s w hl; rwa [hC, hE] at this
  have H3 : Hid (∀ w, ErrT w → Calls Tryz.prog 31 #[.string ⟨s.toArray⟩] w fun e w' => e = .returned (.tuple #[.agg (replyV Q).toArray, .int .i64 G]) ∧ Below w.heap.size w w') := fun w hT => by have := parseReply_any s w hT (by omega); rwa [hQ, hG] at this
  have H4 : Hid (∀ w, Calls Tryz.prog 32 #[.string ⟨s.toArray⟩] w fun e w' => e = .returned (.tuple #[.agg (replyV Q).toArray, .int .i64 G]) ∧ Below w.heap.size w w') := fun w => by have := dparseReply_any s w hl; rwa [hQ, hG] at this
  rw [hC, hE] at H1
  have HT := hid hT
  have hqC := fun w => eqlC w C
  have hqR := fun w => eqlR w Q
  have hgC := fun w op x y xs ys => guardCn w op x y xs ys
  have hgR := fun w op x y xs ys => guardRn w op x y xs ys
  have hEE : (E == E) = true := by simp
  have hGG : (G == G) = true := by simp
  rw [show callV C = [.int .i64 C.xid, .int .i64 C.rpc, .int .i64 C.prog, .int .i64 C.vers, .int .i64 C.proc, .int .i64 C.cred.flavor, .string ⟨C.cred.body.toArray⟩, .int .i64 C.verf.flavor, .string ⟨C.verf.body.toArray⟩, .string ⟨C.args.toArray⟩] from rfl] at hqC H1 H2
  rw [show replyV Q = [.int .i64 Q.xid, .bool Q.denied, .int .i64 Q.verf.flavor, .string ⟨Q.verf.body.toArray⟩, .int .i64 Q.accept, .int .i64 Q.reject, .int .i64 Q.why, .int .i64 Q.low, .int .i64 Q.high, .string ⟨Q.results.toArray⟩] from rfl] at hqR H3 H4
  have HF := hid (And.intro hqC (And.intro hqR (And.intro hgC hgR)))
  clear hC hE hQ hG hT hl hqC hqR hgC hgR
  go_enter Tryz.func10, Tryz.ntmps10
  go_wp2_with fail
  refine H1.out.mono ?_
  rintro e v1 ⟨rfl, B1⟩
  obtain ⟨w1, hw1⟩ : ∃ y, v1.alloc (.cells #[.int .i64 C.xid, .int .i64 C.rpc, .int .i64 C.prog, .int .i64 C.vers, .int .i64 C.proc, .int .i64 C.cred.flavor, .string ⟨C.cred.body.toArray⟩, .int .i64 C.verf.flavor, .string ⟨C.verf.body.toArray⟩, .string ⟨C.args.toArray⟩] 25) = y := ⟨_, rfl⟩
  obtain ⟨hk1, hB1, hz1⟩ := boxed v1 w1 [.int .i64 C.xid, .int .i64 C.rpc, .int .i64 C.prog, .int .i64 C.vers, .int .i64 C.proc, .int .i64 C.cred.flavor, .string ⟨C.cred.body.toArray⟩, .int .i64 C.verf.flavor, .string ⟨C.verf.body.toArray⟩, .string ⟨C.args.toArray⟩] 25 hw1
  have HT2 := hid (HT.out.below (B1.trans (hB1.mono B1.size)))
  have HK1 := hid hk1
  have HB1 : Hid (Below w.heap.size w w1) := B1.trans (hB1.mono B1.size)
  clear hk1 hB1 hz1 B1
  go_wp2_with fail
  clear hw1
  refine (H2.out _).mono ?_
  rintro e v2 ⟨rfl, B2⟩
  obtain ⟨w2, hw2⟩ : ∃ y, v2.alloc (.cells #[.int .i64 C.xid, .int .i64 C.rpc, .int .i64 C.prog, .int .i64 C.vers, .int .i64 C.proc, .int .i64 C.cred.flavor, .string ⟨C.cred.body.toArray⟩, .int .i64 C.verf.flavor, .string ⟨C.verf.body.toArray⟩, .string ⟨C.args.toArray⟩] 25) = y := ⟨_, rfl⟩
  obtain ⟨hk2, hB2, hz2⟩ := boxed v2 w2 [.int .i64 C.xid, .int .i64 C.rpc, .int .i64 C.prog, .int .i64 C.vers, .int .i64 C.proc, .int .i64 C.cred.flavor, .string ⟨C.cred.body.toArray⟩, .int .i64 C.verf.flavor, .string ⟨C.verf.body.toArray⟩, .string ⟨C.args.toArray⟩] 25 hw2
  have HB2 : Hid (Below w1.heap.size w1 w2) := B2.trans (hB2.mono B2.size)
  have HK2 := hid hk2
  clear hk2 hB2 hz2 B2
  go_wp2_with fail
  clear hw2
  have HE3 := hid (H3.out w2 (HT2.out.below HB2.out))
  refine HE3.out.mono ?_
  rintro e v3 ⟨rfl, B3⟩
  obtain ⟨w3, hw3⟩ : ∃ y, v3.alloc (.cells #[.int .i64 Q.xid, .bool Q.denied, .int .i64 Q.verf.flavor, .string ⟨Q.verf.body.toArray⟩, .int .i64 Q.accept, .int .i64 Q.reject, .int .i64 Q.why, .int .i64 Q.low, .int .i64 Q.high, .string ⟨Q.results.toArray⟩] 27) = y := ⟨_, rfl⟩
  obtain ⟨hk3, hB3, hz3⟩ := boxed v3 w3 [.int .i64 Q.xid, .bool Q.denied, .int .i64 Q.verf.flavor, .string ⟨Q.verf.body.toArray⟩, .int .i64 Q.accept, .int .i64 Q.reject, .int .i64 Q.why, .int .i64 Q.low, .int .i64 Q.high, .string ⟨Q.results.toArray⟩] 27 hw3
  have HB3 : Hid (Below w2.heap.size w2 w3) := B3.trans (hB3.mono B3.size)
  have HK3 := hid hk3
  clear hk3 hB3 hz3 B3 HE3
  go_wp2_with fail
  clear hw3
  refine (H4.out _).mono ?_
  rintro e v4 ⟨rfl, B4⟩
  obtain ⟨w4, hw4⟩ : ∃ y, v4.alloc (.cells #[.int .i64 Q.xid, .bool Q.denied, .int .i64 Q.verf.flavor, .string ⟨Q.verf.body.toArray⟩, .int .i64 Q.accept, .int .i64 Q.reject, .int .i64 Q.why, .int .i64 Q.low, .int .i64 Q.high, .string ⟨Q.results.toArray⟩] 27) = y := ⟨_, rfl⟩
  obtain ⟨hk4, hB4, hz4⟩ := boxed v4 w4 [.int .i64 Q.xid, .bool Q.denied, .int .i64 Q.verf.flavor, .string ⟨Q.verf.body.toArray⟩, .int .i64 Q.accept, .int .i64 Q.reject, .int .i64 Q.why, .int .i64 Q.low, .int .i64 Q.high, .string ⟨Q.results.toArray⟩] 27 hw4
  have HB4 : Hid (Below w3.heap.size w3 w4) := B4.trans (hB4.mono B4.size)
  have hk14 := ((HK1.out.below HB2.out HK1.out.lt).below HB3.out (HK1.out.below HB2.out HK1.out.lt).lt).below HB4.out ((HK1.out.below HB2.out HK1.out.lt).below HB3.out (HK1.out.below HB2.out HK1.out.lt).lt).lt
  have hk24 := (HK2.out.below HB3.out HK2.out.lt).below HB4.out (HK2.out.below HB3.out HK2.out.lt).lt
  have hk34 := HK3.out.below HB4.out HK3.out.lt
  have a0 := hk14.cell 0 rfl
  have a1 := hk14.cell 1 rfl
  have a2 := hk14.cell 2 rfl
  have a3 := hk14.cell 3 rfl
  have a4 := hk14.cell 4 rfl
  have a5 := hk14.cell 5 rfl
  have a6 := hk14.cell 6 rfl
  have a7 := hk14.cell 7 rfl
  have a8 := hk14.cell 8 rfl
  have a9 := hk14.cell 9 rfl
  have b0 := hk24.cell 0 rfl
  have b1 := hk24.cell 1 rfl
  have b2 := hk24.cell 2 rfl
  have b3 := hk24.cell 3 rfl
  have b4 := hk24.cell 4 rfl
  have b5 := hk24.cell 5 rfl
  have b6 := hk24.cell 6 rfl
  have b7 := hk24.cell 7 rfl
  have b8 := hk24.cell 8 rfl
  have b9 := hk24.cell 9 rfl
  have c0 := hk34.cell 0 rfl
  have c1 := hk34.cell 1 rfl
  have c2 := hk34.cell 2 rfl
  have c3 := hk34.cell 3 rfl
  have c4 := hk34.cell 4 rfl
  have c5 := hk34.cell 5 rfl
  have c6 := hk34.cell 6 rfl
  have c7 := hk34.cell 7 rfl
  have c8 := hk34.cell 8 rfl
  have c9 := hk34.cell 9 rfl
  have d0 := hk4.cell 0 rfl
  have d1 := hk4.cell 1 rfl
  have d2 := hk4.cell 2 rfl
  have d3 := hk4.cell 3 rfl
  have d4 := hk4.cell 4 rfl
  have d5 := hk4.cell 5 rfl
  have d6 := hk4.cell 6 rfl
  have d7 := hk4.cell 7 rfl
  have d8 := hk4.cell 8 rfl
  have d9 := hk4.cell 9 rfl
  have HE : Hid (Below w.heap.size w w4) := HB1.out.trans ((HB2.out.mono HB1.out.size).trans ((HB3.out.mono (Nat.le_trans HB1.out.size HB2.out.size)).trans (HB4.out.mono (Nat.le_trans HB1.out.size (Nat.le_trans HB2.out.size HB3.out.size)))))
  obtain ⟨hqC, hqR, hgC, hgR⟩ := HF.out
  clear hk4 hB4 hz4 B4 hk14 hk24 hk34 HK1 HK2 HK3 HT2 HF H1 H2 H3 H4
  go_wp2
  go_ret
  exact ⟨rfl, HE.out⟩
end Go.Proofs.YtebjheaohichpaaGreatDoor
