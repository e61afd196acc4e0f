/- Services: the law's first calls. -/
import Derived.Test.YtcpjihaicmlmjaaPSs
namespace Go.Proofs.Ytcpjihaicmlmjaa
open Go.RowKit
theorem bld48s (w : World) (a b : Int) (v : Option Addr) (n c : Nat) : (Instr.build 48 #[(0, .int .i64 a), (1, .int .i64 b), (2, .slice v n c), (3, hd)]).run Try.prog w = .ok (.agg #[.int .i64 a, .int .i64 b, .slice v n c, hd]) w := by kernel_rfl
set_option maxRecDepth 8000 in
set_option maxHeartbeats 1000000 in
theorem known_any (w : World) : Calls Try.prog 5 #[] w fun e w' => e = .returned (.bool true) ∧ Below w.heap.size w w' := by
  obtain ⟨K0, hK0⟩ : ∃ K0 : Nat → Nat, K0 = fun _ => 0 := ⟨_, rfl⟩
  have BS0 : BS w w K0 := by rw [hK0]; exact BS.first w
  obtain ⟨S, hS⟩ : ∃ S, w.heap.size = S := ⟨_, rfl⟩
  obtain ⟨w1, hw1⟩ : ∃ w1, w.alloc (.cells #[.slice none 0 0] 52) = w1 := ⟨_, rfl⟩
  have P1 := PR.new K0 w 1
  rw [hw1, hS] at P1
  have BS1 := BS0.mv (Mv.alloc w K0 (fun _ => 1) (.cells #[.slice none 0 0] 52)) (fun h => h)
  rw [hw1] at BS1
  obtain ⟨S2, hS2⟩ : ∃ S2, w1.heap.size = S2 := ⟨_, rfl⟩
  obtain ⟨w2, hw2⟩ : ∃ w2, w1.alloc (.cells #[.int .i64 1, .int .i64 4] 3) = w2 := ⟨_, rfl⟩
  have b2 : Below w1.heap.size w1 w2 := by rw [← hw2]; exact (Below.refl _ _).alloc (Nat.le_refl _) _
  have P2 := P1.below b2 (fun _ => 5)
  have BS2 := BS1.mv (Mv.of_below b2 _ (fun _ => 5)) (fun h => h)
  have HO := hid (offer_any P2 (by omega) ⟨7, 2, [1, 4], some ⟨S2, 0, none⟩, 2⟩ (gs2 hS2 hw2) (fun a h => by cases h; rfl) (by simp))
  have hE : offerE [] ⟨7, 2, [1, 4], some ⟨S2, 0, none⟩, 2⟩ true = 0 := rfl
  rw [hE] at HO
  have HBS := hid BS2
  have HN := hid (new_any w)
  rw [hw1, hS] at HN
  have hb2 := bls2
  have hb48 := bld48s
  clear BS0 P1 BS1 b2 P2 BS2 hE hK0
  go_enter Try.func5, Try.ntmps5
  go_wp2_with fail
  refine HN.out.mono ?_
  rintro _ v1 ⟨rfl, hv1⟩
  subst hv1
  clear HN
  go_wp2_with fail
  refine HO.out.mono ?_
  rintro _ w3 ⟨K3, oa3, cap3, L3, rfl, hP3, hM3, hT3⟩
  obtain ⟨oq, cq, rfl⟩ : ∃ oq cq, L3 = [⟨7, 2, [1, 4], oq, cq⟩] := by
    rcases hT3 with ⟨h, _⟩ | ⟨_, oq, cq, h⟩
    · exact absurd rfl h
    · exact ⟨oq, cq, h⟩
  have HP3 := hid hP3
  have HBS3 := hid (HBS.out.mv hM3 (by simp))
  have HF1 := hid (find_any hP3 7 2 4)
  have e1 : findP [⟨7, 2, [1, 4], oq, cq⟩] 7 2 4 = (0, 0, 0) := rfl
  rw [e1] at HF1
  clear hP3 hM3 hT3 HO e1 HBS
  go_wp2_with fail
  refine HF1.out.mono ?_
  rintro _ w4 ⟨rfl, hb4⟩
  have HBS4 := hid (HBS3.out.mv (Mv.of_below hb4 _ (fun _ => 5)) (fun h => h))
  have HP4 := hid (HP3.out.below hb4 (fun _ => 5))
  have HF2 := hid (find_any HP4.out 7 3 1)
  have e1 : findP [⟨7, 2, [1, 4], oq, cq⟩] 7 3 1 = (2, 2, 2) := rfl
  rw [e1] at HF2
  clear hb4 HF1 e1 HBS3
  go_wp2_with fail
  refine HF2.out.mono ?_
  rintro _ w5 ⟨rfl, hb5⟩
  have HBS5 := hid (HBS4.out.mv (Mv.of_below hb5 _ (fun _ => 5)) (fun h => h))
  have HP5 := hid (HP4.out.below hb5 (fun _ => 5))
  have HF3 := hid (run_any HP5.out 7 2 1 [] (by simp))
  have e1 : tup (ranP (findP [⟨7, 2, [1, 4], oq, cq⟩] 7 2 1).1 1 []) = .tuple #[.int .i64 0, .string ⟨#[110, 111, 110, 101]⟩] := rfl
  rw [e1] at HF3
  clear hb5 HF2 e1 HBS4
  go_wp2_with fail
  refine HF3.out.mono ?_
  rintro _ w6 ⟨rfl, hb6⟩
  have HBS6 := hid (HBS5.out.mv (Mv.of_below hb6 _ (fun _ => 5)) (fun h => h))
  clear hb6 HF3
  go_wp2
  go_ret
  exact ⟨rfl, HBS6.out.be⟩
end Go.Proofs.Ytcpjihaicmlmjaa
