/- ShelfTypes: its walk. From a contract to the row: the frame of the plain rows. Proved: whatever the input, the law ShelfTypes of callboxlaw14 (S1 to S4: shelves of other types of keys and things, arrays and structs as keys, lists and pointers as things, keep them as they were handed in) returns true, and each argument reads behind the call as it read before. No condition. -/
import Derived.Test.YthhddpobnkmeaaaTyB
import Derived.Test.YthhddpobnkmeaaaTyC
import Derived.Test.YthhddpobnkmeaaaTyA
import Derived.LaidEqlPtr
import Derived.Test.YthhddpobnkmeaaaRows
import Derived.ProofKit
import Derived.OpenShut
import Derived.LaidMore
import Derived.Lay
import Derived.SevenTiedAt
import Derived.Stop.Joined
import Derived.ChangeMaps5
import Derived.Carry
import Derived.LaidHandle
import Derived.Deep.Slices
namespace Go.Proofs.Ythhddpobnkmeaaa
open Go.RowKit
set_option maxRecDepth 8000 in
theorem types_long (w : World) (n : Int) (s : ByteArray) (h : decide (2147483647 < (s.size : Int)) = true) : Calls Try.prog 5 #[.int .i64 n, .string s] w fun e w' => e = .returned (.bool true) ∧ Below w.heap.size w w' := by
  have H := hid (Below.refl w.heap.size w)
  go_enter Try.func5, Try.ntmps5
  go_wp2
  go_ret
  exact ⟨rfl, H.out⟩
set_option maxHeartbeats 4000000 in
set_option maxRecDepth 8000 in
theorem types_any (w : World) (n : Int) (s : ByteArray) (h : decide (2147483647 < (s.size : Int)) = false) : Calls Try.prog 5 #[.int .i64 n, .string s] w fun e w' => e = .returned (.bool true) ∧ Below w.heap.size w w' := by
  have AW := hid (awake_any w)
  have HN : Hid ((Lit.int .u8 (n % 256)).wf = true ∧ (Lit.int .u8 7).wf = true) := ⟨by simp [Lit.wf, IntKind.min, IntKind.max, IntKind.signed, IntKind.bits]; omega, by decide⟩
  have HS : Hid (s.size ≤ 2147483647) := by simp at h; show s.size ≤ 2147483647; omega
  go_enter Try.func5, Try.ntmps5
  go_wp2_with fail
  refine AW.out.mono ?_
  rintro _ w1 ⟨rfl, e1⟩
  obtain ⟨K1, H1⟩ : ∃ K1, Hid (BS w w1 K1) := ⟨_, (BS.first w).mv (Mv.of_below e1 _ (fun _ => 9)) (fun h => h)⟩
  clear e1 AW
  go_wp2_with fail
  -- the three shelves
  refine (newT_good w1 3 3 rfl (by omega)).mono ?_
  rintro _ w2 ⟨rfl, ha, e2⟩
  obtain ⟨K2, ta, mv⟩ := TS.made ha e2 (by omega) K1 1
  have H2 := hid (And.intro (H1.out.mv mv (fun h => h)) ta)
  clear ha e2 mv ta H1
  generalize w1.heap.size + 2 = pa at *
  generalize w1.heap.size + 1 = ma at *
  generalize w1.heap.size = ra at *
  go_wp2_with fail
  refine (newP_good w2 3 3 rfl (by omega)).mono ?_
  rintro _ w3 ⟨rfl, ha, e2⟩
  obtain ⟨K3, tb, mv⟩ := TS.made ha e2 (by omega) K2 2
  have H3 := hid (And.intro (H2.out.1.mv mv (fun h => h)) (And.intro (H2.out.2.mv mv (fun h => h)) tb))
  clear ha e2 mv tb H2
  generalize w2.heap.size + 2 = pb at *
  generalize w2.heap.size + 1 = mb at *
  generalize w2.heap.size = rb at *
  go_wp2_with fail
  refine (newB_good w3 0 0 rfl (by omega)).mono ?_
  rintro _ w4 ⟨rfl, ha, e2⟩
  obtain ⟨K4, tc, mv⟩ := TS.made ha e2 (by omega) K3 3
  have H4 := hid (And.intro (H3.out.1.mv mv (fun h => h)) (And.intro (H3.out.2.1.mv mv (fun h => h)) (And.intro (H3.out.2.2.mv mv (fun h => h)) tc)))
  clear ha e2 mv tc H3
  generalize w3.heap.size + 2 = pc at *
  generalize w3.heap.size + 1 = mc at *
  generalize w3.heap.size = rc at *
  obtain ⟨w5, hw5⟩ : ∃ w5, w4.alloc (.cells #[.string s] 9) = w5 := ⟨_, rfl⟩
  obtain ⟨w6, hw6⟩ : ∃ w6, w5.alloc (.cells #[.int .u8 (n % 256), .int .u8 7, .bool (decide (0 < n))] 71) = w6 := ⟨_, rfl⟩
  obtain ⟨gl, hgl⟩ : ∃ gl, w4.heap.size = gl := ⟨_, rfl⟩
  obtain ⟨gk, hgk⟩ : ∃ gk, w5.heap.size = gk := ⟨_, rfl⟩
  obtain ⟨K5, hK5⟩ : ∃ K5, ext w4 K4 (fun _ => 4) = K5 := ⟨_, rfl⟩
  obtain ⟨K6, hK6⟩ : ∃ K6, ext w5 K5 (fun _ => 5) = K6 := ⟨_, rfl⟩
  have H6 : Hid (BS w w6 K6 ∧ TS kdT K6 w6 1 pa 3 ma ra [] ∧ TS kdP K6 w6 2 pb 3 mb rb [] ∧ TS kdB K6 w6 3 pc 0 mc rc [] ∧ TB K6 w6 4 gl (.cells #[.string s] 9)) := by
    obtain ⟨a0, a1, a2, a3⟩ := H4.out
    have v1 := Mv.alloc w4 K4 (fun _ => 4) (.cells #[.string s] 9)
    have t1 := TB.new w4 K4 (fun _ => 4) (.cells #[.string s] 9) (t := 4) rfl
    rw [hw5, hK5] at v1 t1
    rw [hgl] at t1
    have v2 := Mv.alloc w5 K5 (fun _ => 5) (.cells #[.int .u8 (n % 256), .int .u8 7, .bool (decide (0 < n))] 71)
    rw [hw6, hK6] at v2
    exact ⟨(a0.mv v1 id).mv v2 id, (a1.mv v1 id).mv v2 id, (a2.mv v1 id).mv v2 id, (a3.mv v1 id).mv v2 id, t1.mv v2 id⟩
  have k0 : w6.heap[gk]? = some (.cells #[.int .u8 (n % 256), .int .u8 7, .bool (decide (0 < n))] 71) := by rw [← hw6, ← hgk]; exact (MapKept.heap_alloc w5 _).1
  have k1 : w6.cell? ⟨gk, 0, none⟩ = some (.int .u8 (n % 256)) := by unfold World.cell?; rw [k0]; rfl
  have k2 : w6.cell? ⟨gk, 1, none⟩ = some (.int .u8 7) := by unfold World.cell?; rw [k0]; rfl
  have k3 : w6.cell? ⟨gk, 2, none⟩ = some (.bool (decide (0 < n))) := by unfold World.cell?; rw [k0]; rfl
  clear hK5 hK6 H4 k0
  go_wp2_with fail
  -- a.Put(k, l)
  refine (putT_new H6.out.2.1.sh ⟨n % 256, 7, decide (0 < n)⟩ (some ⟨gl, 0, none⟩, 1, 1) HN.out (by simp) (by simp)).mono ?_
  rintro _ w7 ⟨b1, rfl, h1, c1⟩
  obtain ⟨K7, tt, mv⟩ := H6.out.2.1.chg h1 c1
  have H7 : Hid (BS w w7 K7 ∧ TS kdT K7 w7 1 pa 3 ma ra [⟨b1, ⟨n % 256, 7, decide (0 < n)⟩, (some ⟨gl, 0, none⟩, 1, 1)⟩] ∧ TS kdP K7 w7 2 pb 3 mb rb [] ∧ TS kdB K7 w7 3 pc 0 mc rc [] ∧ TB K7 w7 4 gl (.cells #[.string s] 9)) :=
    ⟨H6.out.1.mv mv (by simp), tt, H6.out.2.2.1.mv mv (by simp), H6.out.2.2.2.1.mv mv (by simp), H6.out.2.2.2.2.mv mv (by simp)⟩
  clear h1 c1 tt mv H6
  go_wp2_with fail
  -- a.Put of the zero key
  refine (putT_new H7.out.2.1.sh ⟨0, 0, false⟩ (none, 0, 0) (by decide) (by simp) (by simp)).mono ?_
  rintro _ w8 ⟨b2, rfl, h1, c1⟩
  obtain ⟨K8, tt, mv⟩ := H7.out.2.1.chg h1 c1
  have H8 : Hid (BS w w8 K8 ∧ TS kdT K8 w8 1 pa 3 ma ra [⟨b1, ⟨n % 256, 7, decide (0 < n)⟩, (some ⟨gl, 0, none⟩, 1, 1)⟩, ⟨b2, ⟨0, 0, false⟩, (none, 0, 0)⟩] ∧ TS kdP K8 w8 2 pb 3 mb rb [] ∧ TS kdB K8 w8 3 pc 0 mc rc [] ∧ TB K8 w8 4 gl (.cells #[.string s] 9)) :=
    ⟨H7.out.1.mv mv (by simp), tt, H7.out.2.2.1.mv mv (by simp), H7.out.2.2.2.1.mv mv (by simp), H7.out.2.2.2.2.mv mv (by simp)⟩
  clear h1 c1 tt mv H7
  have q0 : w8.cell? ⟨gl, 0, none⟩ = some (.string s) := by unfold World.cell?; rw [H8.out.2.2.2.2.at_]; rfl
  have q1 : w8.frozen? ⟨gl, 0, none⟩ = false := by unfold World.frozen?; rw [H8.out.2.2.2.2.at_]; rfl
  obtain ⟨w9, hw9⟩ : ∃ w9, w8.setCell ⟨gl, 0, none⟩ (.string ⟨#[97, 110, 111, 116, 104, 101, 114, 32, 111, 110, 101]⟩) = w9 := ⟨_, rfl⟩
  have H9 : Hid (BS w w9 K8 ∧ TS kdT K8 w9 1 pa 3 ma ra [⟨b1, ⟨n % 256, 7, decide (0 < n)⟩, (some ⟨gl, 0, none⟩, 1, 1)⟩, ⟨b2, ⟨0, 0, false⟩, (none, 0, 0)⟩] ∧ TS kdP K8 w9 2 pb 3 mb rb [] ∧ TS kdB K8 w9 3 pc 0 mc rc [] ∧ TB K8 w9 4 gl (.cells #[.string ⟨#[97, 110, 111, 116, 104, 101, 114, 32, 111, 110, 101]⟩] 9)) := by
    obtain ⟨a0, a1, a2, a3, a4⟩ := H8.out
    have v := Mv.of_set w8 K8 ⟨gl, 0, none⟩ (.string ⟨#[97, 110, 111, 116, 104, 101, 114, 32, 111, 110, 101]⟩) a4.k
    rw [hw9] at v
    refine ⟨a0.mv v (by simp), a1.mv v (by simp), a2.mv v (by simp), a3.mv v (by simp), ⟨?_, a4.k⟩⟩
    rw [← hw9]
    have := a4.at_
    unfold World.setCell
    simp [Array.getElem?_modify, this]
  clear H8
  go_wp2_with fail
  -- a.Get, twice
  refine (getT_some H9.out.2.1.sh (t := ⟨b1, ⟨n % 256, 7, decide (0 < n)⟩, (some ⟨gl, 0, none⟩, 1, 1)⟩) (by simp)).mono ?_
  rintro _ w10 ⟨rfl, e1⟩
  have v := Mv.of_below e1 K8 (fun _ => 6)
  have H10 := hid (And.intro (H9.out.1.mv v id) (And.intro (H9.out.2.1.mv v id) (And.intro (H9.out.2.2.1.mv v id) (And.intro (H9.out.2.2.2.1.mv v id) (H9.out.2.2.2.2.mv v id)))))
  generalize ext w9 K8 (fun _ => 6) = K10 at H10
  clear e1 v H9
  go_wp2_with fail
  refine (getT_some H10.out.2.1.sh (t := ⟨b2, ⟨0, 0, false⟩, (none, 0, 0)⟩) (by simp)).mono ?_
  rintro _ w11 ⟨rfl, e1⟩
  have v := Mv.of_below e1 K10 (fun _ => 6)
  have H11 := hid (And.intro (H10.out.1.mv v id) (And.intro (H10.out.2.1.mv v id) (And.intro (H10.out.2.2.1.mv v id) (And.intro (H10.out.2.2.2.1.mv v id) (H10.out.2.2.2.2.mv v id)))))
  generalize ext w10 K10 (fun _ => 6) = K11 at H11
  clear e1 v H10
  obtain ⟨w12, hw12⟩ : ∃ w12, w11.alloc (.cells #[.int .i64 n] 3) = w12 := ⟨_, rfl⟩
  obtain ⟨gm, hgm⟩ : ∃ gm, w11.heap.size = gm := ⟨_, rfl⟩
  obtain ⟨K12, hK12⟩ : ∃ K12, ext w11 K11 (fun _ => 7) = K12 := ⟨_, rfl⟩
  have H12 : Hid (BS w w12 K12 ∧ TS kdT K12 w12 1 pa 3 ma ra [⟨b1, ⟨n % 256, 7, decide (0 < n)⟩, (some ⟨gl, 0, none⟩, 1, 1)⟩, ⟨b2, ⟨0, 0, false⟩, (none, 0, 0)⟩] ∧ TS kdP K12 w12 2 pb 3 mb rb [] ∧ TS kdB K12 w12 3 pc 0 mc rc [] ∧ TB K12 w12 4 gl (.cells #[.string ⟨#[97, 110, 111, 116, 104, 101, 114, 32, 111, 110, 101]⟩] 9) ∧ TB K12 w12 7 gm (.cells #[.int .i64 n] 3)) := by
    obtain ⟨a0, a1, a2, a3, a4⟩ := H11.out
    have v1 := Mv.alloc w11 K11 (fun _ => 7) (.cells #[.int .i64 n] 3)
    have t1 := TB.new w11 K11 (fun _ => 7) (.cells #[.int .i64 n] 3) (t := 7) rfl
    rw [hw12, hK12] at v1 t1
    rw [hgm] at t1
    exact ⟨a0.mv v1 id, a1.mv v1 id, a2.mv v1 id, a3.mv v1 id, a4.mv v1 id, t1⟩
  clear hK12 H11
  go_wp2_with fail
  -- b.Put(s, &m)
  refine (putP_new H12.out.2.2.1.sh s (some ⟨gm, 0, none⟩) (by have := HS.out; unfold maxLen; omega) (by simp) (by simp)).mono ?_
  rintro _ w13 ⟨rfl, h1, c1⟩
  obtain ⟨K13, tt, mv⟩ := H12.out.2.2.1.chg h1 c1
  generalize w12.heap.size = b3 at tt
  have H13 : Hid (BS w w13 K13 ∧ TS kdT K13 w13 1 pa 3 ma ra [⟨b1, ⟨n % 256, 7, decide (0 < n)⟩, (some ⟨gl, 0, none⟩, 1, 1)⟩, ⟨b2, ⟨0, 0, false⟩, (none, 0, 0)⟩] ∧ TS kdP K13 w13 2 pb 3 mb rb [⟨b3, s, some ⟨gm, 0, none⟩⟩] ∧ TS kdB K13 w13 3 pc 0 mc rc [] ∧ TB K13 w13 4 gl (.cells #[.string ⟨#[97, 110, 111, 116, 104, 101, 114, 32, 111, 110, 101]⟩] 9) ∧ TB K13 w13 7 gm (.cells #[.int .i64 n] 3)) :=
    ⟨H12.out.1.mv mv (by simp), H12.out.2.1.mv mv (by simp), tt, H12.out.2.2.2.1.mv mv (by simp), H12.out.2.2.2.2.1.mv mv (by simp), H12.out.2.2.2.2.2.mv mv (by simp)⟩
  clear h1 c1 tt mv H12
  go_wp2_with fail
  -- b.Get(s)
  refine (getP_some H13.out.2.2.1.sh (t := ⟨b3, s, some ⟨gm, 0, none⟩⟩) (by simp)).mono ?_
  rintro _ _ ⟨rfl, rfl⟩
  rename_i w13
  have q2 : w13.cell? ⟨gm, 0, none⟩ = some (.int .i64 n) := by unfold World.cell?; rw [H13.out.2.2.2.2.2.at_]; rfl
  have q3 : w13.frozen? ⟨gm, 0, none⟩ = false := by unfold World.frozen?; rw [H13.out.2.2.2.2.2.at_]; rfl
  obtain ⟨w14, hw14⟩ : ∃ w14, w13.setCell ⟨gm, 0, none⟩ (.int .i64 (wrap64 (n + 1))) = w14 := ⟨_, rfl⟩
  have H14 : Hid (BS w w14 K13 ∧ TS kdT K13 w14 1 pa 3 ma ra [⟨b1, ⟨n % 256, 7, decide (0 < n)⟩, (some ⟨gl, 0, none⟩, 1, 1)⟩, ⟨b2, ⟨0, 0, false⟩, (none, 0, 0)⟩] ∧ TS kdP K13 w14 2 pb 3 mb rb [⟨b3, s, some ⟨gm, 0, none⟩⟩] ∧ TS kdB K13 w14 3 pc 0 mc rc [] ∧ TB K13 w14 4 gl (.cells #[.string ⟨#[97, 110, 111, 116, 104, 101, 114, 32, 111, 110, 101]⟩] 9) ∧ TB K13 w14 7 gm (.cells #[.int .i64 (wrap64 (n + 1))] 3)) := by
    obtain ⟨a0, a1, a2, a3, a4, a5⟩ := H13.out
    have v := Mv.of_set w13 K13 ⟨gm, 0, none⟩ (.int .i64 (wrap64 (n + 1))) a5.k
    rw [hw14] at v
    refine ⟨a0.mv v (by simp), a1.mv v (by simp), a2.mv v (by simp), a3.mv v (by simp), a4.mv v (by simp), ⟨?_, a5.k⟩⟩
    rw [← hw14]
    have := a5.at_
    unfold World.setCell
    simp [Array.getElem?_modify, this]
  clear H13
  have hcat : (9223372036854775807 < s.size + (⟨#[120]⟩ : ByteArray).size) = False := by
    have := HS.out
    refine eq_false ?_
    rw [show (⟨#[120]⟩ : ByteArray).size = 1 from rfl]
    omega
  have hcat2 : (9223372036854775807 < s.size + 1) = False := by
    have := HS.out
    refine eq_false ?_
    omega
  have hcat3 : decide (9223372036854775807 < s.size + 1) = false := by
    have := HS.out
    simp only [decide_eq_false_iff_not]
    omega
  have HX : Hid ((s ++ (⟨#[120]⟩ : ByteArray)).size = s.size + 1) := by
    show _ = _
    rw [ByteArray.size_append]; rfl
  go_wp2_with fail
  -- b.Get of a longer one
  obtain ⟨X, hX⟩ : ∃ X, s ++ (⟨#[120]⟩ : ByteArray) = X := ⟨_, rfl⟩
  rw [hX] at HX ⊢
  have hne : ∀ t ∈ ([⟨b3, s, some ⟨gm, 0, none⟩⟩] : List (Th ByteArray (Option Addr))), t.k ≠ X := by
    intro t ht e
    simp at ht
    subst ht
    have h2 := HX.out
    rw [← e] at h2
    simp at h2
  have hok : X.size ≤ maxLen := by have := HS.out; have := HX.out; unfold maxLen; omega
  refine (getP_none H14.out.2.2.1.sh X hok hne).mono ?_
  rintro _ _ ⟨rfl, rfl⟩
  rename_i w14
  clear HX hcat hcat2 hcat3 hX hne hok
  go_wp2_with fail
  -- c.Put, c.Get
  refine (putB_full H14.out.2.2.2.1.sh).mono ?_
  rintro _ w15 ⟨rfl, e1⟩
  have v := Mv.of_below e1 K13 (fun _ => 6)
  have H15 := hid (And.intro (H14.out.1.mv v id) (And.intro (H14.out.2.1.mv v id) (And.intro (H14.out.2.2.2.1.mv v id) (And.intro (H14.out.2.2.2.2.1.mv v id) (H14.out.2.2.2.2.2.mv v id)))))
  generalize ext w14 K13 (fun _ => 6) = K15 at H15
  clear e1 v H14
  go_wp2_with fail
  refine (getB_none H15.out.2.2.1.sh).mono ?_
  rintro _ w16 ⟨rfl, e1⟩
  have v := Mv.of_below e1 K15 (fun _ => 6)
  have H16 := hid (And.intro (H15.out.1.mv v id) (And.intro (H15.out.2.1.mv v id) (And.intro (H15.out.2.2.2.1.mv v id) (H15.out.2.2.2.2.mv v id))))
  generalize ext w15 K15 (fun _ => 6) = K16 at H16
  clear e1 v H15
  obtain ⟨w17, hw17⟩ : ∃ w17, w16.alloc (.cells #[] 79) = w17 := ⟨_, rfl⟩
  have v := Mv.alloc w16 K16 (fun _ => 6) (.cells #[] 79)
  rw [hw17] at v
  have H17 := hid (And.intro (H16.out.1.mv v id) (And.intro (H16.out.2.1.mv v id) (And.intro (H16.out.2.2.1.mv v id) (H16.out.2.2.2.mv v id))))
  generalize ext w16 K16 (fun _ => 6) = K17 at H17
  have q4 : w17.cell? ⟨gl, 0, none⟩ = some (.string ⟨#[97, 110, 111, 116, 104, 101, 114, 32, 111, 110, 101]⟩) := by unfold World.cell?; rw [H17.out.2.2.1.at_]; rfl
  have q5 : w17.cell? ⟨gm, 0, none⟩ = some (.int .i64 (wrap64 (n + 1))) := by unfold World.cell?; rw [H17.out.2.2.2.at_]; rfl
  have q6 : (binOp .eql 75 (.pointer (some ⟨gm, 0, none⟩)) (.pointer (some ⟨gm, 0, none⟩))).run Try.prog w17 = .ok (.bool true) w17 := run_eql_ptr_same _ _ Try.underlying75 (Option.some_get (show (Try.prog.info? 3).isSome = true by kernel_rfl)).symm
  clear v H16
  go_wp2_with fail
  refine (lenT_any H17.out.2.1.sh).mono ?_
  rintro _ _ ⟨rfl, rfl⟩
  rename_i w17
  have HB := hid H17.out.1.be
  go_wp2
  go_ret
  exact ⟨rfl, HB.out⟩
end Go.Proofs.Ythhddpobnkmeaaa
namespace Go.Proofs.Ythhddpobnkmeaaa
open Go.ChangeMaps Go.ChangeShapes Go.WideShapes Go.ChangeAt Go.RowKit

theorem own : ownKnob Try.prog.godebug = none := by kernel_rfl

set_option maxRecDepth 100000 in
/-- The row's step. -/
theorem lift_law {H : Type} {enc : TypeId × Value → H} {os : Os} {f : FuncId} {fn : Func} {s : ChangeSpec}
    (started : os.Started) (noInit : Try.checked.prog.inits.idxOf? f = none) (hfn : Try.checked.prog.funcs[f]? = some fn)
    (witness : ∃ (w : World) (tape : Tape) (i : Input), w.os = os ∧ (w.forCall tape i).Shaped Try.checked.prog ∧ i.vars = [] ∧ Input.okWide Try.checked.prog (w.forCall tape i) .any w.heap.size f i ∧
      ((s.pre enc Try.checked.prog fn [] false (w.forCall tape i).memory i.args ∧ True) ∧ sizedMet enc Try.checked.prog fn (OpenSpec.ofChange s) false (w.forCall tape i).memory i.args) ∧ ({} : Assume).holds Try.checked.prog (lone (Frame.enter Try.checked.prog f i.args .normal) [] (w.forCall tape i)))
    (contract : ∀ (W : World) (base : Nat) (args : Array Value) (ds gs : List (DataW H)) (before : List MemPlace),
      (∀ (j : Nat) t v, fn.params[j]? = some t → args[j]? = some v → Value.okWide Try.checked.prog W .any base t v) →
      DataW.Whole enc Try.checked.prog fn.params.toList s.vars false W args.toList ds gs before →
      (DataW.weightsEach Try.checked.prog (fn.params.toList ++ s.plain.varTypes Try.checked.prog) (ds ++ gs)).all (· ≤ reachBytes) = true → W.ShapedOpen Try.checked.prog →
      Calls Try.checked.prog f args W fun e W' => ∃ v, e = .returned v ∧ s.post enc Try.checked.prog fn false true false false W args v W') :
    ReturnsInHanded {} Try.checked os f .any (fun w args => s.pre enc Try.checked.prog fn [] false w args ∧ sizedMet enc Try.checked.prog fn (OpenSpec.ofChange s) false w args) (s.post enc Try.checked.prog fn false true false false) := by
  obtain ⟨w0, tape0, i0, k1, k2, k3, k4, ⟨⟨k5, _⟩, k6⟩, k7⟩ := witness
  refine returnsInHanded_of_calls own started noInit ⟨w0, tape0, i0, k1, k2, k3, k4, ⟨k5, k6⟩, k7⟩ ?_
  intro w tape i _ hsh _ hok hpre _
  obtain ⟨_, _, _, fn', hfn', _, _, _, _, hval⟩ := hok
  obtain rfl : fn' = fn := Option.some.inj (hfn'.symm.trans hfn)
  obtain ⟨⟨ds, gs, before, hw, _⟩, hz⟩ := hpre
  refine (contract (w.forCall tape i) w.heap.size i.args ds gs before hval (DataW.Whole.of_heap (w' := w.forCall tape i) (by rfl) hw) (hz.weights hw) hsh).mono ?_
  rintro e W' ⟨v, rfl, hp⟩
  exact ChangeSpec.post_blind hp

theorem list_bytes (s : ByteArray) : (⟨s.data.toList.toArray⟩ : ByteArray) = s := by simp

end Go.Proofs.Ythhddpobnkmeaaa
namespace Go.Proofs.Ythhddpobnkmeaaa
open Go.ChangeMaps Go.ChangeShapes Go.WideShapes Go.ChangeAt Go.RowKit
set_option maxRecDepth 100000 in
theorem shelfTypes_lifted (os : Os) (started : os.Started) (H : Type) (enc : TypeId × Value → H) :
    ReturnsInHanded {} Try.checked os 5 .any (fun w args => Rows.shelfTypesSpec.pre enc Try.prog Try.f5 [] false w args ∧ sizedMet enc Try.prog Try.f5 (OpenSpec.ofChange Rows.shelfTypesSpec) false w args)
      (Rows.shelfTypesSpec.post enc Try.prog Try.f5 false true false false) := by
  refine lift_law started (by kernel_rfl) Try.func5
    (ChangeSpec.witness_shaped (enc := enc) (C := Try.checked) (os := os) (X := fun _ _ => True) false
      (World.holding Try.prog os ⟨#[], #[], []⟩) #[.int .i64 0, .string ⟨#[]⟩] 8 rfl
      (World.shaped_of_ZipB (by kernel_rfl) (by kernel_rfl)) (by kernel_rfl) (by kernel_rfl) (by kernel_rfl)
      trivial) ?_
  intro W base args ds gs before hval0 hW _ _
  have hval : ∀ (j : Nat) t v, Try.f5.params[j]? = some t → args[j]? = some v → Value.okWide Try.prog W .any base t v := hval0
  have hW' := hW
  obtain ⟨p, q, hA0, hV, rfl, _, _⟩ := hW
  have hA : DataW.TrodAll enc Try.prog W 0 (fun _ => true) true Try.f5.params.toList args.toList ds p := hA0
  have hlt := hA.lt
  rw [Try.params5] at hA hval
  obtain ⟨v0, v1, d0, d1, p0, p1, rfl, rfl, rfl, h0, h1⟩ := trodAll_two hA
  obtain ⟨rfl, rfl⟩ := trodVars_none hV
  have k0 := h0
  have k1 := h1
  obtain ⟨n, rfl, rfl, rfl, w0⟩ := open_int Try.underlying3 (hval 0 3 v0 rfl rfl) h0
  obtain ⟨s, rfl, rfl, rfl, w1⟩ := open_string Try.underlying9 (hval 1 9 v1 rfl rfl) h1
  clear hA0 hval0
  have key : Calls Try.prog 5 #[.int .i64 n, .string s] W fun e w' => e = .returned (.bool true) ∧ Below W.heap.size W w' := by
    cases hs : decide (2147483647 < (s.size : Int))
    · exact types_any W n s hs
    · exact types_long W n s hs
  refine key.mono fun e W' ⟨he, hg⟩ => ?_
  subst he
  have hs0 := Below.trod (by kernel_rfl) (by kernel_rfl) (of_decide_eq_true (by kernel_rfl)) k0 hg (fun x hx => hlt x (by simp at hx))
  have hs1 := Below.trod (by kernel_rfl) (by kernel_rfl) (of_decide_eq_true (by kernel_rfl)) k1 hg (fun x hx => hlt x (by simp at hx))
  exact ⟨_, rfl, _, _, _, [], _, [], hW', trodAll_mk1 (shut_bool Try.underlying4 _), trodAll_mk2 hs0 hs1, rfl, hg.frame _, fun h => by cases h⟩
theorem shelfTypes_holds : Rows.ShelfTypesSaid :=
  OpenClaim.holds_of_wide 5 Try.f5 rfl rfl rfl rfl rfl rfl rfl ⟨rfl, rfl, rfl, rfl, rfl⟩ rfl rfl rfl rfl rfl (by kernel_rfl) Try.func5 (by kernel_rfl)
    (of_decide_eq_true (by kernel_rfl)) (by unfold Func.isWrapper; first | (rw [if_pos (by decide +kernel)]; kernel_rfl) | (rw [if_neg (by decide +kernel)]; exact ⟨rfl, rfl⟩))
    (fun os started H enc _ => shelfTypes_lifted os started H enc)
#print axioms shelfTypes_holds
end Go.Proofs.Ythhddpobnkmeaaa
