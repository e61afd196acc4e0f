/- ShelfPlays: step. -/
import Derived.Test.YtkkamilmjaochaaPBz
namespace Go.Proofs.Ytkkamilmjaochaa
open Go.RowKit
set_option maxRecDepth 8000 in
set_option maxHeartbeats 8000000 in
theorem step_any {K : Nat → Nat} {w : World} {B β y p m r x most : Nat} {L : List Pr} {bb N n : Nat} (sd : ∃ A W va vw, SD K w B β y p m r x most L L A W va vw) (hb : BKx K w B bb N n) (hβ : 100 ≤ β ∧ β ≤ 900) (o : OpP) (ho : I64 o.m ∧ I64 o.n) (hv : I64 o.v) (hk : KOk o.k) (hV : VOk L) (hn : N + n ≤ 9000000000) :
    Calls Try.prog 11 #[ptr y, opV o, ptr bb] w fun e w' => e = .returned (.bool true) ∧ ∃ K' n' L', n' ≤ n + 2 ∧ VOk L' ∧ (∃ A W va vw, SD K' w' B β y p m r x most L' L' A W va vw) ∧ BKx K' w' B bb N n' ∧ Mv (TZ β) w w' K K' := by
  obtain ⟨S0, hS0⟩ : ∃ S0, w.heap.size = S0 := ⟨_, rfl⟩
  obtain ⟨w1, hw1⟩ : ∃ w1, w.alloc (opB o) = w1 := ⟨_, rfl⟩
  have m1 : Mv (fun _ => False) w w1 K (ext w K (fun _ => β + 16)) := by rw [← hw1]; exact Mv.alloc w K _ _
  obtain ⟨K1, hK1⟩ : ∃ K1, ext w K (fun _ => β + 16) = K1 := ⟨_, rfl⟩
  have HP : Hid (SP K w K1 w1 B β y p m r x most L L S0 o bb N n) := by
    rw [hK1] at m1
    obtain ⟨A, W, va, vw, sd⟩ := sd
    refine ⟨⟨A, W, va, vw, sd.mv m1 id id id id id id⟩, ?_, hb.mv m1 (fun _ h => h.elim), hβ, m1.mono (fun _ h => h.elim)⟩
    have := TB.new w K (fun _ => β + 16) (opB o) (t := β + 16) rfl
    rw [hw1, hS0, hK1] at this
    exact this
  have HEND : Hid (∀ K' w' L' n', SP K w K' w' B β y p m r x most L' L' S0 o bb N n' → n' ≤ n + 2 → VOk L' → ∃ K' n' L', n' ≤ n + 2 ∧ VOk L' ∧ (∃ A W va vw, SD K' w' B β y p m r x most L' L' A W va vw) ∧ BKx K' w' B bb N n' ∧ Mv (TZ β) w w' K K') := fun K' w' L' n' h1 h2 h3 => ⟨K', n', L', h2, h3, h1.sd, h1.bk, h1.mv⟩
  have HX : Hid ((I64 o.m ∧ I64 o.n) ∧ I64 o.v ∧ KOk o.k ∧ VOk L ∧ N + n ≤ 9000000000) := ⟨ho, hv, hk, hV, hn⟩
  have HD : Hid (ND L ∧ L.length ≤ most) := ⟨HP.out.mm.1, HP.out.mm.2.1⟩
  have c0 := HP.out.op.1
  clear sd hb hβ ho hv hk hV hn m1 hK1
  go_enter Try.func11, Try.ntmps11
  cases z1 : (o.kd == 1)
  · cases z2 : (o.kd == 2)
    · cases z3 : (o.kd == 3)
      · cases z4 : (o.kd == 4)
        · cases z5 : (o.kd == 5)
          · have HE := hid (HEND.out K1 w1 _ n HP.out (by omega) HX.out.2.2.2.1)
            clear HEND HP HD HX
            go_wp2
            go_ret
            exact ⟨rfl, HE.out⟩
          · have HC : Hid (Calls Try.prog 48 #[ptr y, opV o] w1 fun e w' => e = .returned (.bool true) ∧ Hid (∃ K', SP K w K' w' B β y p m r x most (pruL most o L) (pruL most o L) S0 o bb N n)) := HP.out.prune HX.out.1 HX.out.2.2.2.1
            obtain ⟨_, _, b2, b3, b4⟩ := HP.out.cs
            obtain ⟨b0, b1, b5, b6⟩ := HP.out.op
            clear HP HD c0
            go_wp2_with fail
            refine HC.out.mono ?_
            rintro _ w6 ⟨rfl, H6⟩
            obtain ⟨K6, P6⟩ := H6.out
            have HE := hid (HEND.out K6 w6 _ n P6 (by omega) (v_pru HX.out.2.2.2.1 _ _))
            clear HEND P6 H6 HC
            go_wp2
            go_ret
            exact ⟨rfl, HE.out⟩
        · go_wp2_with fail
          clear c0
          go_loopw [13] (fun u13 wr => ∃ (j : Nat) (K' : Nat → Nat), u13 = .int .i64 j ∧ j ≤ 2 ∧ Hid (SP K w K' wr B β y p m r x most L L S0 o bb N (n + j))) (fun u13 _ => 2 - (intOf u13).toNat)
          case atStart => exact ⟨0, K1, rfl, Nat.zero_le _, HP.out⟩
          case round =>
            obtain ⟨j, K2, rfl, hj, HQ⟩ := hrel
            obtain ⟨w2, hw2⟩ : ∃ yy, yy = wr := ⟨_, rfl⟩
            subst hw2
            clear HP
            by_cases hj2 : j < 2
            · have hj' : (j : Int) < 2 := by omega
              have hj0 : (0 : Int) ≤ (j : Int) := by omega
              have a0 := HQ.out.cs.1
              have HC1 := hid (HQ.out.keys (1000 + (N + (n + j))))
              have HJ := hid hj2
              clear hj2 hj
              go_wp2_with fail
              refine HC1.out.mono ?_
              rintro _ w3 ⟨s, rfl, H3⟩
              obtain ⟨K3, P3, R3, mv3⟩ := H3.out
              have a1 := P3.cs.2.1
              have HC2 := hid (P3.dkeys HD.out.2 2)
              have HR3 := hid R3
              clear HC1 HQ H3 P3 R3 mv3 a0
              go_wp2_with fail
              refine HC2.out.mono ?_
              rintro _ w4 ⟨u, rfl, H4⟩
              obtain ⟨K4, P4, R4, mv4⟩ := H4.out
              have R5 := HR3.out.mv mv4 id
              have hln : (L.map Pr.k).length ≤ 1048576 := by rw [List.length_map]; have := P4.mm; omega
              have HC3 : Hid (Calls Try.prog 47 #[.slice s.oa s.n s.c, .slice u.oa u.n u.c] w4 fun e w' => e = .returned (.bool true) ∧ ∃ k, w' = w4.drewN k) := keys_same rfl R5.own R4.own (by omega)
              have HP4 := hid (And.intro P4 (And.intro R5 (And.intro R4 hln)))
              clear HC2 H4 P4 R4 mv4 HR3 R5 hln a1
              go_wp2_with fail
              refine HC3.out.mono ?_
              rintro _ w5 ⟨rfl, k, hw5⟩
              have m5 : Mv (fun _ => False) w4 w5 K4 K4 := by rw [hw5]; exact mv_drewN w4 K4 k
              have P5 := HP4.out.1.to m5 (fun _ => id)
              have Rs := HP4.out.2.1.mv m5 id
              have Ru := HP4.out.2.2.1.mv m5 id
              obtain ⟨vf, vw, va, FL, WL, AL, hbk, hFL⟩ := P5.bk
              obtain ⟨fa, fc, hvf, _, _⟩ := hbk.f.form
              obtain ⟨wa, wc, hvw, _, _⟩ := hbk.g.form
              rw [hbk.lw] at hvw
              obtain ⟨nn, hnn⟩ : ∃ nn, FL.length = nn := ⟨_, rfl⟩
              rw [hnn] at hvf hvw
              subst hvf hvw
              have b0 := hbk.c.1
              obtain ⟨S6, hS6⟩ : ∃ S6, w5.heap.size = S6 := ⟨_, rfl⟩
              obtain ⟨w6, hw6⟩ : ∃ w6, w5.alloc (.cells #[.slice s.oa s.n s.c] 109) = w6 := ⟨_, rfl⟩
              obtain ⟨oa, c, w7, w8, r7, z7, f7, hw8, z8, hrest⟩ := hbk.free (s := s) (u := u) (by rw [hFL]; exact Rs) Ru HP4.out.2.2.2 (by have := HX.out.2.2.2.2; have := HJ.out; omega) hS6 hw6
              rw [hnn] at r7 hw8
              obtain ⟨S9, hS9⟩ : ∃ S9, w8.heap.size = S9 := ⟨_, rfl⟩
              obtain ⟨w9, hw9⟩ : ∃ w9, w8.alloc (.cells #[.slice u.oa u.n u.c] 109) = w9 := ⟨_, rfl⟩
              obtain ⟨ob, d, w10, w11, K11, r10, z10, f10, hw11, hbk2, mv11⟩ := hrest S9 w9 hS9 hw9
              rw [hnn] at r10 hw11
              have P11 := P5.book mv11 hbk2 (by rw [List.length_append, hFL]; rfl)
              have HR7 := hid r7
              have HR10 := hid r10
              have HP11 := hid P11
              have hbs := fun w => bls41 w s
              have hbs2 := fun w => bls41 w u
              clear HC3 HP4 m5 P5 Rs Ru hbk hFL hnn r7 hrest r10 hbk2 mv11 P11 hw5
              go_wp2_with (at_builtin; refine Hid.out ?_)
              refine (show Hid _ from ?_)
              refine wpList_app rfl _ _ 41 rfl _ _ _ _ rfl rfl (HR7.out _) ?_
              clear hw6 hbs b0
              go_wp2_with (at_builtin; refine Hid.out ?_)
              refine (show Hid _ from ?_)
              refine wpList_app rfl _ _ 41 rfl _ _ _ _ rfl rfl (HR10.out _) ?_
              clear hw8 hw9 hbs2 z7 f7 z8
              go_wp2_with fail
              clear hw11 z10 f10
              go_roundw
              case rel => exact ⟨j + 1, K11, by first | rfl | (rw [wrapS (j := j) (by have := HJ.out; omega)]; rfl), HJ.out, HP11.out⟩
              case measure => first | exact meas6 rfl HJ.out | exact meas6 (wrapS (j := j) (by have := HJ.out; omega)) HJ.out
            · obtain rfl : j = 2 := by omega
              have HE := hid (HEND.out K2 w2 _ _ HQ.out (Nat.le_refl _) HX.out.2.2.2.1)
              clear HEND HQ HD HX
              go_wp2
              go_ret
              exact ⟨rfl, HE.out⟩
      · obtain ⟨cc, hcc⟩ : ∃ cc, dropC L o.k = cc := ⟨_, rfl⟩
        have s0 : w1.cell? ⟨y, 0, none⟩ = some (ptr p) ∧ w1.cell? ⟨y, 1, none⟩ = some (ptr x) ∧ w1.cell? ⟨S0, 2, none⟩ = some (.string o.k.s) ∧ w1.cell? ⟨S0, 3, none⟩ = some (.int .i64 o.k.n) ∧ w1.cell? ⟨S0, 4, none⟩ = some (.int .i64 o.v) := HP.out.cs
        have s1 : ∀ i, (w1.drewN i).cell? ⟨y, 0, none⟩ = some (ptr p) ∧ (w1.drewN i).cell? ⟨y, 1, none⟩ = some (ptr x) ∧ (w1.drewN i).cell? ⟨S0, 2, none⟩ = some (.string o.k.s) ∧ (w1.drewN i).cell? ⟨S0, 3, none⟩ = some (.int .i64 o.k.n) ∧ (w1.drewN i).cell? ⟨S0, 4, none⟩ = some (.int .i64 o.v) := fun _ => s0
        have HC : Hid (∀ i, Calls Try.prog 43 #[ptr p, keyV o.k] (w1.drewN i) fun e w' => e = .returned (.int .i64 cc) ∧ Hid (∃ K', SP K w K' w' B β y p m r x most (dropL L o.k) L S0 o bb N n)) := fun i => (HP.out.to (mv_drewN w1 K1 i) (fun _ => id)).drop HX.out.2.2.1 |> fun h => by rw [hcc] at h; exact h
        have HNX : Hid (∀ K6 w6, SP K w K6 w6 B β y p m r x most (dropL L o.k) L S0 o bb N n → ∀ i, Calls Try.prog 44 #[ptr x, keyV o.k] (w6.drewN i) fun e w' => e = .returned (.int .i64 cc) ∧ Hid (∃ K', SP K w K' w' B β y p m r x most (dropL L o.k) (dropL L o.k) S0 o bb N n)) := fun K6 w6 h i => (SP.to h (mv_drewN w6 K6 i) (fun _ => id)).ddrop HD.out |> fun h => by rw [hcc] at h; exact h
        have keq : (cc == cc) = true := by simp
        clear HD
        clear HP hcc
        go_wp2_with fail
        go_region_held3 (fun w' => w'.cell? ⟨y, 0, none⟩ = some (ptr p) ∧ w'.cell? ⟨y, 1, none⟩ = some (ptr x) ∧ w'.cell? ⟨S0, 2, none⟩ = some (.string o.k.s) ∧ w'.cell? ⟨S0, 3, none⟩ = some (.int .i64 o.k.n) ∧ w'.cell? ⟨S0, 4, none⟩ = some (.int .i64 o.v)) (first | with_reducible exact s0 | with_reducible exact s1 _ | with_reducible exact s7 | exact s0) (first
          | (go_at_call 43
             refine (HC.out _).mono ?_
             rintro _ w6 ⟨rfl, H6⟩
             have s7 : w6.cell? ⟨y, 0, none⟩ = some (ptr p) ∧ w6.cell? ⟨y, 1, none⟩ = some (ptr x) ∧ w6.cell? ⟨S0, 2, none⟩ = some (.string o.k.s) ∧ w6.cell? ⟨S0, 3, none⟩ = some (.int .i64 o.k.n) ∧ w6.cell? ⟨S0, 4, none⟩ = some (.int .i64 o.v) := by
               obtain ⟨K7, P7⟩ := H6.out
               exact P7.cs))
        obtain ⟨K6, P6⟩ := H6.out
        have HC2 := hid (HNX.out K6 w6 P6)
        have t0 := s7
        have t1 : ∀ i, (w6.drewN i).cell? ⟨y, 0, none⟩ = some (ptr p) ∧ (w6.drewN i).cell? ⟨y, 1, none⟩ = some (ptr x) ∧ (w6.drewN i).cell? ⟨S0, 2, none⟩ = some (.string o.k.s) ∧ (w6.drewN i).cell? ⟨S0, 3, none⟩ = some (.int .i64 o.k.n) ∧ (w6.drewN i).cell? ⟨S0, 4, none⟩ = some (.int .i64 o.v) := fun _ => t0
        clear s0 s1 s7 HC H6 HNX P6 c0 hw1
        go_wp2_with fail
        go_region_held3 (fun w' => w'.cell? ⟨y, 0, none⟩ = some (ptr p) ∧ w'.cell? ⟨y, 1, none⟩ = some (ptr x) ∧ w'.cell? ⟨S0, 2, none⟩ = some (.string o.k.s) ∧ w'.cell? ⟨S0, 3, none⟩ = some (.int .i64 o.k.n) ∧ w'.cell? ⟨S0, 4, none⟩ = some (.int .i64 o.v)) (first | with_reducible exact t0 | with_reducible exact t1 _ | with_reducible exact s7 | exact t0) (first
          | (go_at_call 44
             refine (HC2.out _).mono ?_
             rintro _ w8 ⟨rfl, H8⟩
             have s7 : w8.cell? ⟨y, 0, none⟩ = some (ptr p) ∧ w8.cell? ⟨y, 1, none⟩ = some (ptr x) ∧ w8.cell? ⟨S0, 2, none⟩ = some (.string o.k.s) ∧ w8.cell? ⟨S0, 3, none⟩ = some (.int .i64 o.k.n) ∧ w8.cell? ⟨S0, 4, none⟩ = some (.int .i64 o.v) := by
               obtain ⟨K7, P7⟩ := H8.out
               exact P7.cs))
        obtain ⟨K8, P8⟩ := H8.out
        have HE := hid (HEND.out K8 w8 _ n P8 (by omega) (v_drop HX.out.2.2.2.1 _))
        clear HEND P8 H8 t0 t1 s7 HC2
        go_wp2
        go_ret
        exact ⟨rfl, HE.out⟩
    · obtain ⟨gv, hgv⟩ : ∃ gv, getL L o.k = gv := ⟨_, rfl⟩
      obtain ⟨gh, hgh⟩ : ∃ gh, hasK L o.k = gh := ⟨_, rfl⟩
      have s0 : w1.cell? ⟨y, 0, none⟩ = some (ptr p) ∧ w1.cell? ⟨y, 1, none⟩ = some (ptr x) ∧ w1.cell? ⟨S0, 2, none⟩ = some (.string o.k.s) ∧ w1.cell? ⟨S0, 3, none⟩ = some (.int .i64 o.k.n) ∧ w1.cell? ⟨S0, 4, none⟩ = some (.int .i64 o.v) := HP.out.cs
      have s1 : ∀ i, (w1.drewN i).cell? ⟨y, 0, none⟩ = some (ptr p) ∧ (w1.drewN i).cell? ⟨y, 1, none⟩ = some (ptr x) ∧ (w1.drewN i).cell? ⟨S0, 2, none⟩ = some (.string o.k.s) ∧ (w1.drewN i).cell? ⟨S0, 3, none⟩ = some (.int .i64 o.k.n) ∧ (w1.drewN i).cell? ⟨S0, 4, none⟩ = some (.int .i64 o.v) := fun _ => s0
      have HC : Hid (∀ i, Calls Try.prog 41 #[ptr p, keyV o.k] (w1.drewN i) fun e w' => e = .returned (.tuple #[.int .i64 gv, .bool gh]) ∧ Hid (∃ K', SP K w K' w' B β y p m r x most L L S0 o bb N n ∧ Mv (fun _ => False) _ w' K1 K')) := fun i => (HP.out.to (mv_drewN w1 K1 i) (fun _ => id)).get o.k HX.out.2.2.1 |> fun h => by rw [hgv, hgh] at h; exact h
      have HNX : Hid (∀ K6 w6, SP K w K6 w6 B β y p m r x most L L S0 o bb N n → ∀ i, Calls Try.prog 42 #[ptr x, keyV o.k] (w6.drewN i) fun e w' => e = .returned (.tuple #[.int .i64 gv, .bool gh]) ∧ Hid (∃ K', SP K w K' w' B β y p m r x most L L S0 o bb N n ∧ Mv (fun _ => False) _ w' K6 K')) := fun K6 w6 h i => (SP.to h (mv_drewN w6 K6 i) (fun _ => id)).dget HD.out o.k |> fun h => by rw [hgv, hgh] at h; exact h
      have keq : (gv == gv) = true := by simp
      have kqb : (gh == gh) = true := by simp
      clear HD
      clear HP hgv hgh
      go_wp2_with fail
      go_region_held3 (fun w' => w'.cell? ⟨y, 0, none⟩ = some (ptr p) ∧ w'.cell? ⟨y, 1, none⟩ = some (ptr x) ∧ w'.cell? ⟨S0, 2, none⟩ = some (.string o.k.s) ∧ w'.cell? ⟨S0, 3, none⟩ = some (.int .i64 o.k.n) ∧ w'.cell? ⟨S0, 4, none⟩ = some (.int .i64 o.v)) (first | with_reducible exact s0 | with_reducible exact s1 _ | with_reducible exact s7 | exact s0) (first
        | (go_at_call 41
           refine (HC.out _).mono ?_
           rintro _ w6 ⟨rfl, H6⟩
           have s7 : w6.cell? ⟨y, 0, none⟩ = some (ptr p) ∧ w6.cell? ⟨y, 1, none⟩ = some (ptr x) ∧ w6.cell? ⟨S0, 2, none⟩ = some (.string o.k.s) ∧ w6.cell? ⟨S0, 3, none⟩ = some (.int .i64 o.k.n) ∧ w6.cell? ⟨S0, 4, none⟩ = some (.int .i64 o.v) := by
             obtain ⟨K7, P7, _⟩ := H6.out
             exact P7.cs))
      obtain ⟨K6, P6, _⟩ := H6.out
      have HC2 := hid (HNX.out K6 w6 P6)
      have t0 := s7
      have t1 : ∀ i, (w6.drewN i).cell? ⟨y, 0, none⟩ = some (ptr p) ∧ (w6.drewN i).cell? ⟨y, 1, none⟩ = some (ptr x) ∧ (w6.drewN i).cell? ⟨S0, 2, none⟩ = some (.string o.k.s) ∧ (w6.drewN i).cell? ⟨S0, 3, none⟩ = some (.int .i64 o.k.n) ∧ (w6.drewN i).cell? ⟨S0, 4, none⟩ = some (.int .i64 o.v) := fun _ => t0
      clear s0 s1 s7 HC H6 HNX P6 c0 hw1
      go_wp2_with fail
      go_region_held3 (fun w' => w'.cell? ⟨y, 0, none⟩ = some (ptr p) ∧ w'.cell? ⟨y, 1, none⟩ = some (ptr x) ∧ w'.cell? ⟨S0, 2, none⟩ = some (.string o.k.s) ∧ w'.cell? ⟨S0, 3, none⟩ = some (.int .i64 o.k.n) ∧ w'.cell? ⟨S0, 4, none⟩ = some (.int .i64 o.v)) (first | with_reducible exact t0 | with_reducible exact t1 _ | with_reducible exact s7 | exact t0) (first
        | (go_at_call 42
           refine (HC2.out _).mono ?_
           rintro _ w8 ⟨rfl, H8⟩
           have s7 : w8.cell? ⟨y, 0, none⟩ = some (ptr p) ∧ w8.cell? ⟨y, 1, none⟩ = some (ptr x) ∧ w8.cell? ⟨S0, 2, none⟩ = some (.string o.k.s) ∧ w8.cell? ⟨S0, 3, none⟩ = some (.int .i64 o.k.n) ∧ w8.cell? ⟨S0, 4, none⟩ = some (.int .i64 o.v) := by
             obtain ⟨K7, P7, _⟩ := H8.out
             exact P7.cs))
      obtain ⟨K8, P8, _⟩ := H8.out
      have HE := hid (HEND.out K8 w8 _ n P8 (by omega) HX.out.2.2.2.1)
      clear HEND P8 H8 t0 t1 s7 HC2
      go_wp2
      go_ret
      exact ⟨rfl, HE.out⟩
  · obtain ⟨cc, hcc⟩ : ∃ cc, putC most L o.k = cc := ⟨_, rfl⟩
    have s0 : w1.cell? ⟨y, 0, none⟩ = some (ptr p) ∧ w1.cell? ⟨y, 1, none⟩ = some (ptr x) ∧ w1.cell? ⟨S0, 2, none⟩ = some (.string o.k.s) ∧ w1.cell? ⟨S0, 3, none⟩ = some (.int .i64 o.k.n) ∧ w1.cell? ⟨S0, 4, none⟩ = some (.int .i64 o.v) := HP.out.cs
    have s1 : ∀ i, (w1.drewN i).cell? ⟨y, 0, none⟩ = some (ptr p) ∧ (w1.drewN i).cell? ⟨y, 1, none⟩ = some (ptr x) ∧ (w1.drewN i).cell? ⟨S0, 2, none⟩ = some (.string o.k.s) ∧ (w1.drewN i).cell? ⟨S0, 3, none⟩ = some (.int .i64 o.k.n) ∧ (w1.drewN i).cell? ⟨S0, 4, none⟩ = some (.int .i64 o.v) := fun _ => s0
    have HC : Hid (∀ i, Calls Try.prog 39 #[ptr p, keyV o.k, .int .i64 o.v] (w1.drewN i) fun e w' => e = .returned (.int .i64 cc) ∧ Hid (∃ K', SP K w K' w' B β y p m r x most (putL most L o.k o.v) L S0 o bb N n)) := fun i => (HP.out.to (mv_drewN w1 K1 i) (fun _ => id)).put HX.out.2.2.1 |> fun h => by rw [hcc] at h; exact h
    have HNX : Hid (∀ K6 w6, SP K w K6 w6 B β y p m r x most (putL most L o.k o.v) L S0 o bb N n → ∀ i, Calls Try.prog 40 #[ptr x, keyV o.k, .int .i64 o.v] (w6.drewN i) fun e w' => e = .returned (.int .i64 cc) ∧ Hid (∃ K', SP K w K' w' B β y p m r x most (putL most L o.k o.v) (putL most L o.k o.v) S0 o bb N n)) := fun K6 w6 h i => (SP.to h (mv_drewN w6 K6 i) (fun _ => id)).dput HD.out |> fun h => by rw [hcc] at h; exact h
    have keq : (cc == cc) = true := by simp
    clear HD
    clear HP hcc
    go_wp2_with fail
    go_region_held3 (fun w' => w'.cell? ⟨y, 0, none⟩ = some (ptr p) ∧ w'.cell? ⟨y, 1, none⟩ = some (ptr x) ∧ w'.cell? ⟨S0, 2, none⟩ = some (.string o.k.s) ∧ w'.cell? ⟨S0, 3, none⟩ = some (.int .i64 o.k.n) ∧ w'.cell? ⟨S0, 4, none⟩ = some (.int .i64 o.v)) (first | with_reducible exact s0 | with_reducible exact s1 _ | with_reducible exact s7 | exact s0) (first
      | (go_at_call 39
         refine (HC.out _).mono ?_
         rintro _ w6 ⟨rfl, H6⟩
         have s7 : w6.cell? ⟨y, 0, none⟩ = some (ptr p) ∧ w6.cell? ⟨y, 1, none⟩ = some (ptr x) ∧ w6.cell? ⟨S0, 2, none⟩ = some (.string o.k.s) ∧ w6.cell? ⟨S0, 3, none⟩ = some (.int .i64 o.k.n) ∧ w6.cell? ⟨S0, 4, none⟩ = some (.int .i64 o.v) := by
           obtain ⟨K7, P7⟩ := H6.out
           exact P7.cs))
    obtain ⟨K6, P6⟩ := H6.out
    have HC2 := hid (HNX.out K6 w6 P6)
    have t0 := s7
    have t1 : ∀ i, (w6.drewN i).cell? ⟨y, 0, none⟩ = some (ptr p) ∧ (w6.drewN i).cell? ⟨y, 1, none⟩ = some (ptr x) ∧ (w6.drewN i).cell? ⟨S0, 2, none⟩ = some (.string o.k.s) ∧ (w6.drewN i).cell? ⟨S0, 3, none⟩ = some (.int .i64 o.k.n) ∧ (w6.drewN i).cell? ⟨S0, 4, none⟩ = some (.int .i64 o.v) := fun _ => t0
    clear s0 s1 s7 HC H6 HNX P6 c0 hw1
    go_wp2_with fail
    go_region_held3 (fun w' => w'.cell? ⟨y, 0, none⟩ = some (ptr p) ∧ w'.cell? ⟨y, 1, none⟩ = some (ptr x) ∧ w'.cell? ⟨S0, 2, none⟩ = some (.string o.k.s) ∧ w'.cell? ⟨S0, 3, none⟩ = some (.int .i64 o.k.n) ∧ w'.cell? ⟨S0, 4, none⟩ = some (.int .i64 o.v)) (first | with_reducible exact t0 | with_reducible exact t1 _ | with_reducible exact s7 | exact t0) (first
      | (go_at_call 40
         refine (HC2.out _).mono ?_
         rintro _ w8 ⟨rfl, H8⟩
         have s7 : w8.cell? ⟨y, 0, none⟩ = some (ptr p) ∧ w8.cell? ⟨y, 1, none⟩ = some (ptr x) ∧ w8.cell? ⟨S0, 2, none⟩ = some (.string o.k.s) ∧ w8.cell? ⟨S0, 3, none⟩ = some (.int .i64 o.k.n) ∧ w8.cell? ⟨S0, 4, none⟩ = some (.int .i64 o.v) := by
           obtain ⟨K7, P7⟩ := H8.out
           exact P7.cs))
    obtain ⟨K8, P8⟩ := H8.out
    have HE := hid (HEND.out K8 w8 _ n P8 (by omega) (v_put HX.out.2.2.2.1 _ _ _ HX.out.2.1))
    clear HEND P8 H8 t0 t1 s7 HC2
    go_wp2
    go_ret
    exact ⟨rfl, HE.out⟩
end Go.Proofs.Ytkkamilmjaochaa
