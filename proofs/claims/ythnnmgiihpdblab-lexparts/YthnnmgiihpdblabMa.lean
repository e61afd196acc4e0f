/- LexParts' walk. -/
import Derived.Test.YthnnmgiihpdblabLz
namespace Go.Proofs.Ythnnmgiihpdblab
open Go.RowKit

set_option maxRecDepth 4000 in
set_option maxHeartbeats 8000000 in
theorem lexParts_main (ps : List Pc) (bs : List Int) (v vb : Value) (gv : Nat → Option Addr × Nat) (W : World) (h : PcsAt W v ps gv) (hb : IntAt W vb bs) (hl : (ps.length : Int) ≤ 9223372036854775807) (hl2 : (bs.length : Int) ≤ 9223372036854775807)
    (hL : wOf bs.length + wSum ps ≤ 2147483647) (HL : Hid (Calls Try.prog 15 #[v, vb] W (LongPost (wOf bs.length + wSum ps) W))) :
    Calls Try.prog 5 #[v, vb] W fun e w' => e = .returned (.bool true) ∧ Below W.heap.size W w' := by
  have HP : Hid (PcsAt W v ps gv) := h
  have HI : Hid (IntAt W vb bs) := hb
  obtain ⟨oa, cap, g, off, rfl, hoa, right⟩ := h.ex
  obtain ⟨ob, capb, gb, offb, rfl, hob, right_1⟩ := hb.ex
  have HK : Hid (Calls Try.prog 6 #[] W fun e w' => e = .returned (.bool true) ∧ Below W.heap.size W w') := known_any W
  obtain ⟨n, hn⟩ : ∃ n, ps.length = n := ⟨_, rfl⟩
  rw [hn] at hl hoa HP HL ⊢
  have HN : Hid (ps.length = n) := hn
  have HLL : Hid (wOf bs.length + wSum ps ≤ 2147483647) := hL
  have hnb : n ≤ 60000000 := by have := wSum_len ps; omega
  obtain ⟨inf, hi1, hi2, hi3, hi4⟩ := info37_ex
  have HIN : Hid (Try.prog.info? 37 = some inf ∧ inf.zero = some (.agg #[.int .i64 0, .string ⟨#[]⟩, .int .i64 0, .int .i64 0]) ∧ inf.size = 4 ∧ inf.bytes = 40) := ⟨hi1, hi2, hi3, hi4⟩
  clear h hb hn hL hi1 hi2 hi3 hi4 hob
  go_enter Try.func5, Try.ntmps5
  go_wp2_with fail
  refine HL.out.mono ?_
  rintro e w' ⟨bl, rfl, hw, _⟩
  have hw1 := hw.symm
  clear hw
  subst hw1
  cases bl
  case true =>
    go_wp2
    go_ret
    exact ⟨rfl, Below.refl _ _⟩
  go_wp2_with fail
  refine HK.out.mono ?_
  rintro e w1 ⟨rfl, hB⟩
  have HB1 : Hid (Below W.heap.size W w1) := hB
  clear hB
  go_wp2_with fail
  go_loopw [6, 7, 8, 9] (fun s vw la i wr => ∃ (k cw : Nat) (ow : Option Addr) (b : Bld), i = .int .i64 k ∧ s = S b.s ∧ la = .int .i64 b.last ∧ vw = .slice ow k cw ∧ k ≤ n ∧ (b.s.length : Int) ≤ 2147483647 ∧ Hid (b = bldP (ps.take k)) ∧ Hid (b.s.length ≤ wSum (ps.take k)) ∧ Hid (wr.ownsRow W.heap.size 37 4 (.slice ow k cw) k (tokCells b.w)) ∧ Hid (Below W.heap.size W wr)) (fun _ _ _ i _ => n - (intOf i).toNat)
  case atStart => exact ⟨0, 0, none, ⟨[], [], 4⟩, rfl, rfl, rfl, rfl, by omega, by simp, rfl, by show _ ≤ _; simp, World.ownsRow_nil _ _ _ _, HB1.out⟩
  case round =>
    obtain ⟨k, cw, ow, b, rfl, rfl, rfl, rfl, hk, hbs, Hb, Hbs, HO, HB⟩ := hrel
    by_cases hlt : k < n
    · have hk' : (k : Int) < n := by omega
      have hoa' := hoa (by omega)
      subst hoa'
      obtain ⟨p, hp⟩ : ∃ p, ps[k]? = some p := ⟨_, List.getElem?_eq_getElem (by rw [HN.out]; exact hlt)⟩
      obtain ⟨oa2, cap2, g2, off2, hv2, hoa2, hc2⟩ := (HP.out.below HB.out).ex
      obtain ⟨c0, c1, c2, c3, hgi, hpn, hps, hpg⟩ := hc2 k p hp
      have e1 : (some ⟨g, off, none⟩ : Option Addr) = oa2 := by have := hv2; rw [← HN.out] at this; injection this
      have e2 : oa2 = some ⟨g2, off2, none⟩ := hoa2 (by rw [HN.out]; omega)
      have e3 : g = g2 ∧ off = off2 := by rw [e2] at e1; injection e1 with e1; injection e1 with e1 e4; exact ⟨e1, e4⟩
      obtain ⟨rfl, rfl⟩ := e3
      have hgl : (p.gap.length : Int) ≤ 2147483647 := by
        have h1 := HLL.out
        have h2 := wSum_take_le ps (k + 1)
        rw [List.take_add_one, hp, show (some p).toList = [p] from rfl, wSum_snoc] at h2
        have h3 : wOf p.gap.length ≤ 2147483647 := by omega
        unfold wOf at h3
        omega
      have HT : Hid (Calls Try.prog 16 #[.agg #[.int .i64 p.what, .int .i64 p.n, S p.s, .slice (gv k).1 p.gap.length (gv k).2]] wr (TokPost p wr)) := token_any p _ _ _ wr hpn.1 hpn.2 hps
      have HG : Hid (∀ w, Below wr.heap.size wr w → Calls Try.prog 17 #[.slice (gv k).1 p.gap.length (gv k).2] w fun e w' => e = .returned (S (gapP p.gap)) ∧ w' = w) := fun w hw => gap_any p.gap _ w (hgi.below hw) (by omega)
      have HGV : Hid (Gives b p (spaceP b.last p) (tokP p).2 (tokP p).1 (bldOne b p) ∧ bldP (ps.take (k + 1)) = bldOne b p) := ⟨gives b p, by rw [bldP_take hp, Hb.out]⟩
      have hT := tok_len_le p
      have hSP := space_len_le b.last p
      have HW2 : Hid (b.s.length + (spaceP b.last p).length + (tokP p).2.length ≤ wSum (ps.take (k + 1)) ∧ wSum (ps.take (k + 1)) ≤ 2147483647) := by
        have h2 := wSum_take_le ps (k + 1)
        have h3 := HLL.out
        refine ⟨?_, by omega⟩
        rw [List.take_add_one, hp, show (some p).toList = [p] from rfl, wSum_snoc]
        have h4 := Hbs.out
        have h5 : wOf p.gap.length = 20 * p.gap.length := by unfold wOf; omega
        omega
      have hsum : b.s.length + (spaceP b.last p).length + (tokP p).2.length ≤ 2147483647 := by have := HW2.out; omega
      have HSP : Hid (spaceP b.last p = if p.gap = [] ∧ (b.last = 4 ∨ (tokP p).1.kind = 4) then [] else gapP p.gap) := rfl
      clear e1 e2 hv2 hoa2 hc2 hgi hp hps hpg Hb Hbs HL HK
      obtain ⟨gva, hgva⟩ : ∃ x, (gv k).1 = x := ⟨_, rfl⟩
      obtain ⟨gvc, hgvc⟩ : ∃ x, (gv k).2 = x := ⟨_, rfl⟩
      rw [hgva, hgvc] at c3 HT HG
      clear hgva hgvc
      go_wp2_with fail
      refine HT.out.mono ?_
      rintro e w2 ⟨rfl, hB2⟩
      have HB2 : Hid (Below wr.heap.size wr w2) := hB2
      obtain ⟨hcc, hff⟩ := bcell hB2
      clear hB2
      have lg := World.block_lt_of_cell? wr _ c0
      have d3 : w2.cell? ⟨g, off + k * 4 + 3, none⟩ = some (.slice gva p.gap.length gvc) := by rw [hcc _ _ lg]; exact c3
      have lg2 : g < w2.heap.size := Nat.lt_of_lt_of_le lg HB2.out.size
      clear c0 c1 c2 c3 hcc hff
      generalize tokP p = tp at *
      obtain ⟨tk, T⟩ := tp
      simp only at *
      generalize spaceP b.last p = SP at *
      have HGP : Hid (p.gap = [] ↔ p.gap.length = 0) := List.length_eq_zero_iff.symm
      obtain ⟨gl, hgl0⟩ : ∃ gl, p.gap.length = gl := ⟨_, rfl⟩
      rw [hgl0] at d3 hgl HG HGP
      generalize gapP p.gap = GP at *
      clear hgl0 hSP right right_1
      go_wp2_with fail
      refine (HG.out _ (HB2.out.alloc HB2.out.size _)).mono ?_
      rintro e w3 ⟨rfl, rfl⟩
      by_cases hg0 : gl = 0
      · subst hg0
        by_cases hl4 : b.last = 4
        · have hSP0 : SP = [] := by rw [HSP.out, if_pos ⟨HGP.out.2 rfl, .inl hl4⟩]
          subst hSP0
          have hl4' : (b.last == 4) = true := by rw [hl4]; rfl
          clear hl4
          have hcat2 : (9223372036854775807 < b.s.length + T.length) = False := by simp at hsum ⊢; omega
          have hcat3 : (9223372036854775807 < b.s.length) = False := by simp; omega
          go_wp2_with (at_builtin; refine Hid.out ?_)
          refine (show Hid _ from ?_)
          refine wpList_append_lies _ rfl _ _ 25 rfl W.heap.size 37 inf (.agg #[.int .i64 0, .string ⟨#[]⟩, .int .i64 0, .int .i64 0]) 4 40 Try.underlying25 HIN.out.1 HIN.out.2.1 HIN.out.2.2.1 HIN.out.2.2.2 rfl (by decide) (.slice ow k cw) k (tokCells b.w) rfl (own_later HO.out ((HB2.out.alloc HB2.out.size _).alloc (by have := HB2.out.size; simp; omega) _)) ⟨w2.heap.size + 1, 0, none⟩ 1 1 [.int .i64 tk.kind, S tk.text, .int .i64 tk.num, .int .i64 (b.s.length : Int)] rfl rfl (World.news_of_block (cs := #[.int .i64 tk.kind, S tk.text, .int .i64 tk.num, .int .i64 (b.s.length : Int)]) (t := 37) (fr := (0, 0)) (heap_new2 _ _ _)) (by simp [Value.oneCell']) (by omega) (by unfold maxLen; omega) (by omega) (by have h1 := HB.out.size; have h2 := HB2.out.size; simp; omega) _ rfl ?_
          intro g3 cap3 w4 hown hgrow hat hlt3
          have hps := part_step HO.out HB.out HB2.out rfl hgrow
          have hkc := hps.1
          have HB4 : Hid (Below W.heap.size W w4) := hps.2
          have HO4 : Hid (w4.ownsRow W.heap.size 37 4 (.slice (some ⟨g3, 0, none⟩) (k + 1) cap3) (k + 1) (tokCells (bldOne b p).w)) := by
            show World.ownsRow _ _ _ _ _ _ _
            rw [HGV.out.1.w, tokCells_snoc]
            exact hown
          clear hown hgrow hat hlt3 hps
          go_wp2
          go_roundw
          case rel => exact ⟨k + 1, cap3, some ⟨g3, 0, none⟩, bldOne b p, by go_num, by rw [HGV.out.1.s]; exact congrArg Value.string (by rw [show (⟨#[]⟩ : ByteArray) = ⟨([] : List UInt8).toArray⟩ from rfl, S_app, S_app]), by rw [HGV.out.1.last], rfl, by omega, by rw [HGV.out.1.s]; simp; omega, HGV.out.2.symm, by show _ ≤ _; rw [HGV.out.1.s]; have := HW2.out.1; simp; omega, HO4.out, HB4.out⟩
          case measure => simp [intOf]; omega
        · have hl4' : (b.last == 4) = false := beq_eq_false_iff_ne.2 hl4
          by_cases hk4 : tk.kind = 4
          · have hSP0 : SP = [] := by rw [HSP.out, if_pos ⟨HGP.out.2 rfl, .inr hk4⟩]
            subst hSP0
            have hk4' : (tk.kind == 4) = true := by rw [hk4]; rfl
            clear hk4 hl4
            have hcat2 : (9223372036854775807 < b.s.length + T.length) = False := by simp at hsum ⊢; omega
            have hcat3 : (9223372036854775807 < b.s.length) = False := by simp; omega
            go_wp2_with (at_builtin; refine Hid.out ?_)
            refine (show Hid _ from ?_)
            refine wpList_append_lies _ rfl _ _ 25 rfl W.heap.size 37 inf (.agg #[.int .i64 0, .string ⟨#[]⟩, .int .i64 0, .int .i64 0]) 4 40 Try.underlying25 HIN.out.1 HIN.out.2.1 HIN.out.2.2.1 HIN.out.2.2.2 rfl (by decide) (.slice ow k cw) k (tokCells b.w) rfl (own_later HO.out ((HB2.out.alloc HB2.out.size _).alloc (by have := HB2.out.size; simp; omega) _)) ⟨w2.heap.size + 1, 0, none⟩ 1 1 [.int .i64 tk.kind, S tk.text, .int .i64 tk.num, .int .i64 (b.s.length : Int)] rfl rfl (World.news_of_block (cs := #[.int .i64 tk.kind, S tk.text, .int .i64 tk.num, .int .i64 (b.s.length : Int)]) (t := 37) (fr := (0, 0)) (heap_new2 _ _ _)) (by simp [Value.oneCell']) (by omega) (by unfold maxLen; omega) (by omega) (by have h1 := HB.out.size; have h2 := HB2.out.size; simp; omega) _ rfl ?_
            intro g3 cap3 w4 hown hgrow hat hlt3
            have hps := part_step HO.out HB.out HB2.out rfl hgrow
            have hkc := hps.1
            have HB4 : Hid (Below W.heap.size W w4) := hps.2
            have HO4 : Hid (w4.ownsRow W.heap.size 37 4 (.slice (some ⟨g3, 0, none⟩) (k + 1) cap3) (k + 1) (tokCells (bldOne b p).w)) := by
              show World.ownsRow _ _ _ _ _ _ _
              rw [HGV.out.1.w, tokCells_snoc]
              exact hown
            clear hown hgrow hat hlt3 hps
            go_wp2
            go_roundw
            case rel => exact ⟨k + 1, cap3, some ⟨g3, 0, none⟩, bldOne b p, by go_num, by rw [HGV.out.1.s]; exact congrArg Value.string (by rw [show (⟨#[]⟩ : ByteArray) = ⟨([] : List UInt8).toArray⟩ from rfl, S_app, S_app]), by rw [HGV.out.1.last], rfl, by omega, by rw [HGV.out.1.s]; simp; omega, HGV.out.2.symm, by show _ ≤ _; rw [HGV.out.1.s]; have := HW2.out.1; simp; omega, HO4.out, HB4.out⟩
            case measure => simp [intOf]; omega
          · have hSP0 : SP = GP := by rw [HSP.out, if_neg (fun h => h.2.elim hl4 hk4)]
            subst hSP0
            have hk4' : (tk.kind == 4) = false := beq_eq_false_iff_ne.2 hk4
            clear hk4 hl4
            have hcat1 : (9223372036854775807 < b.s.length + SP.length) = False := by simp; omega
            have hcat2 : (9223372036854775807 < b.s.length + SP.length + T.length) = False := by simp; omega
            go_wp2_with (at_builtin; refine Hid.out ?_)
            refine (show Hid _ from ?_)
            refine wpList_append_lies _ rfl _ _ 25 rfl W.heap.size 37 inf (.agg #[.int .i64 0, .string ⟨#[]⟩, .int .i64 0, .int .i64 0]) 4 40 Try.underlying25 HIN.out.1 HIN.out.2.1 HIN.out.2.2.1 HIN.out.2.2.2 rfl (by decide) (.slice ow k cw) k (tokCells b.w) rfl (own_later HO.out ((HB2.out.alloc HB2.out.size _).alloc (by have := HB2.out.size; simp; omega) _)) ⟨w2.heap.size + 1, 0, none⟩ 1 1 [.int .i64 tk.kind, S tk.text, .int .i64 tk.num, .int .i64 ((b.s.length : Int) + (SP.length : Int))] rfl rfl (World.news_of_block (cs := #[.int .i64 tk.kind, S tk.text, .int .i64 tk.num, .int .i64 ((b.s.length : Int) + (SP.length : Int))]) (t := 37) (fr := (0, 0)) (heap_new2 _ _ _)) (by simp [Value.oneCell']) (by omega) (by unfold maxLen; omega) (by omega) (by have h1 := HB.out.size; have h2 := HB2.out.size; simp; omega) _ rfl ?_
            intro g3 cap3 w4 hown hgrow hat hlt3
            have hps := part_step HO.out HB.out HB2.out rfl hgrow
            have hkc := hps.1
            have HB4 : Hid (Below W.heap.size W w4) := hps.2
            have HO4 : Hid (w4.ownsRow W.heap.size 37 4 (.slice (some ⟨g3, 0, none⟩) (k + 1) cap3) (k + 1) (tokCells (bldOne b p).w)) := by
              show World.ownsRow _ _ _ _ _ _ _
              rw [HGV.out.1.w, tokCells_snoc]
              exact hown
            clear hown hgrow hat hlt3 hps
            go_wp2
            go_roundw
            case rel => exact ⟨k + 1, cap3, some ⟨g3, 0, none⟩, bldOne b p, by go_num, by rw [HGV.out.1.s, S_app, S_app], by rw [HGV.out.1.last], rfl, by omega, by rw [HGV.out.1.s]; simp; omega, HGV.out.2.symm, by show _ ≤ _; rw [HGV.out.1.s]; have := HW2.out.1; simp; omega, HO4.out, HB4.out⟩
            case measure => simp [intOf]; omega
      · have hSP0 : SP = GP := by rw [HSP.out, if_neg (fun h => hg0 (HGP.out.1 h.1))]
        subst hSP0
        have hgz : ((gl : Int) == 0) = false := beq_eq_false_iff_ne.2 (by omega)
        have hcat1 : (9223372036854775807 < b.s.length + SP.length) = False := by simp; omega
        have hcat2 : (9223372036854775807 < b.s.length + SP.length + T.length) = False := by simp; omega
        go_wp2_with (at_builtin; refine Hid.out ?_)
        refine (show Hid _ from ?_)
        refine wpList_append_lies _ rfl _ _ 25 rfl W.heap.size 37 inf (.agg #[.int .i64 0, .string ⟨#[]⟩, .int .i64 0, .int .i64 0]) 4 40 Try.underlying25 HIN.out.1 HIN.out.2.1 HIN.out.2.2.1 HIN.out.2.2.2 rfl (by decide) (.slice ow k cw) k (tokCells b.w) rfl (own_later HO.out ((HB2.out.alloc HB2.out.size _).alloc (by have := HB2.out.size; simp; omega) _)) ⟨w2.heap.size + 1, 0, none⟩ 1 1 [.int .i64 tk.kind, S tk.text, .int .i64 tk.num, .int .i64 ((b.s.length : Int) + (SP.length : Int))] rfl rfl (World.news_of_block (cs := #[.int .i64 tk.kind, S tk.text, .int .i64 tk.num, .int .i64 ((b.s.length : Int) + (SP.length : Int))]) (t := 37) (fr := (0, 0)) (heap_new2 _ _ _)) (by simp [Value.oneCell']) (by omega) (by unfold maxLen; omega) (by omega) (by have h1 := HB.out.size; have h2 := HB2.out.size; simp; omega) _ rfl ?_
        intro g3 cap3 w4 hown hgrow hat hlt3
        have hps := part_step HO.out HB.out HB2.out rfl hgrow
        have hkc := hps.1
        have HB4 : Hid (Below W.heap.size W w4) := hps.2
        have HO4 : Hid (w4.ownsRow W.heap.size 37 4 (.slice (some ⟨g3, 0, none⟩) (k + 1) cap3) (k + 1) (tokCells (bldOne b p).w)) := by
          show World.ownsRow _ _ _ _ _ _ _
          rw [HGV.out.1.w, tokCells_snoc]
          exact hown
        clear hown hgrow hat hlt3 hps
        go_wp2
        go_roundw
        case rel => exact ⟨k + 1, cap3, some ⟨g3, 0, none⟩, bldOne b p, by go_num, by rw [HGV.out.1.s, S_app, S_app], by rw [HGV.out.1.last], rfl, by omega, by rw [HGV.out.1.s]; simp; omega, HGV.out.2.symm, by show _ ≤ _; rw [HGV.out.1.s]; have := HW2.out.1; simp; omega, HO4.out, HB4.out⟩
        case measure => simp [intOf]; omega
    · obtain rfl : k = n := by omega
      have hbe : b = bldP ps := by rw [Hb.out, List.take_of_length_le (by rw [HN.out]; omega)]
      have Hbw : Hid (b.w.length = k) := by show _ = _; rw [hbe, bldP_w_len, HN.out]
      have hgb : (bs.length : Int) ≤ 2147483647 := by
        have h1 := HLL.out
        have h3 : wOf bs.length ≤ 2147483647 := by omega
        unfold wOf at h3
        omega
      have hbound : b.s.length + 20 * bs.length ≤ 2147483647 := by
        have h1 := HLL.out
        have h2 := Hbs.out
        rw [List.take_of_length_le (by rw [HN.out]; omega)] at h2
        have h5 : wOf bs.length = 20 * bs.length := by unfold wOf; omega
        omega
      obtain ⟨F, hF⟩ : ∃ F, srcP ps bs = F := ⟨_, rfl⟩
      have HR : Hid ((decide ((16000 : Int) < F.length) = true ∧ scanP F = .err 34 16000) ∨ (decide ((16000 : Int) < F.length) = false ∧ scanP F = .ok (b.w ++ [⟨5, [], 0, F.length⟩]))) := by
        by_cases h : 16000 < F.length
        · exact .inl ⟨decide_eq_true (by omega), by unfold scanP; rw [if_pos h]⟩
        · refine .inr ⟨decide_eq_false (by omega), ?_⟩
          rw [hbe, ← hF]
          exact parts ps bs (by rw [hF]; omega)
      have HFd : Hid (F = b.s ++ (if bs = [] then [] else gapP bs)) := by show _ = _; rw [← hF, hbe]; rfl
      clear hF hbe Hb Hbs HL HK right right_1
      generalize hRR : scanP F = R at *
      by_cases hb0 : 0 < bs.length
      · have hb0' : decide (0 < bs.length) = true := decide_eq_true hb0
        have hb0'' : (0 : Int) < bs.length := by omega
        have HG : Hid (∀ w, Below W.heap.size W w → Calls Try.prog 17 #[.slice ob bs.length capb] w fun e w' => e = .returned (S (gapP bs)) ∧ w' = w) := fun w hw => gap_any bs _ w (HI.out.below hw) (by omega)
        have hFe : F = b.s ++ gapP bs := by rw [HFd.out, if_neg (fun h => by rw [h] at hb0; simp at hb0)]
        have hGl : (gapP bs).length ≤ 1 + 16 * bs.length := by have := gapMore_le bs; simp [gapP]; omega
        generalize gapP bs = GB at *
        have hcat : (9223372036854775807 < b.s.length + GB.length) = False := by simp; omega
        have HS : Hid (∀ w, Calls Try.prog 8 #[.string (⟨b.s.toArray⟩ ++ ⟨GB.toArray⟩)] w (ScanPost R w)) := fun w => by
          rw [S_app, ← hFe, ← hRR]; exact scan_any F w
        have HR : Hid ((decide ((16000 : Int) < (b.s.length : Int) + GB.length) = true ∧ R = .err 34 16000) ∨ (decide ((16000 : Int) < (b.s.length : Int) + GB.length) = false ∧ R = .ok (b.w ++ [⟨5, [], 0, F.length⟩]))) := by
          have := HR.out
          rwa [show (F.length : Int) = (b.s.length : Int) + GB.length by rw [hFe]; simp] at this
        clear hRR
        go_wp2_with fail
        refine (HG.out _ HB.out).mono ?_
        rintro e w3 ⟨rfl, hw⟩
        have hw1 := hw.symm
        clear hw
        subst hw1
        have hlen : F.length = b.s.length + GB.length := by rw [hFe]; simp
        have hwl := Hbw.out
        go_wp2_with (at_builtin; refine Hid.out ?_)
        refine (show Hid _ from ?_)
        refine wpList_append_lies _ rfl _ _ 25 rfl W.heap.size 37 inf (.agg #[.int .i64 0, .string ⟨#[]⟩, .int .i64 0, .int .i64 0]) 4 40 Try.underlying25 HIN.out.1 HIN.out.2.1 HIN.out.2.2.1 HIN.out.2.2.2 rfl (by decide) (.slice ow k cw) k (tokCells b.w) rfl (HO.out.alloc _) ⟨wr.heap.size, 0, none⟩ 1 1 [.int .i64 5, S [], .int .i64 0, .int .i64 ((b.s.length : Int) + (GB.length : Int))] rfl rfl (World.news_of_block (cs := #[.int .i64 5, S [], .int .i64 0, .int .i64 ((b.s.length : Int) + (GB.length : Int))]) (t := 37) (fr := (0, 0)) (heap_alloc_new _ _)) (by simp [Value.oneCell']) (by omega) (by unfold maxLen; omega) (by omega) (by have h1 := HB.out.size; simp; omega) _ rfl ?_
        intro g3 cap3 w4 hown hgrow hat hlt3
        have HB4 : Hid (Below W.heap.size W w4) := (HB.out.alloc HB.out.size _).grown hgrow (by have h1 := HB.out.size; simp; omega) (fun q hq => (HO.out.lt q hq).1)
        have HO4 : Hid (w4.ownsRow W.heap.size 37 4 (.slice (some ⟨g3, 0, none⟩) (k + 1) cap3) (k + 1) (tokCells (b.w ++ [⟨5, [], 0, F.length⟩]))) := by
          show World.ownsRow _ _ _ _ _ _ _
          rw [tokCells_snoc, hlen]
          exact hown
        clear hown hgrow hat hlt3 hlen
        go_wp2_with fail
        refine (HS.out _).mono ?_
        rcases HR.out with ⟨h16, rfl⟩ | ⟨h16, rfl⟩
        · rintro e w5 ⟨rfl, hB5⟩
          have HB5 : Hid (Below W.heap.size W w5) := HB4.out.trans (hB5.mono HB4.out.size)
          clear hB5
          go_wp2
          go_ret
          exact ⟨rfl, HB5.out⟩
        · rintro e w5 ⟨g5, cap5, rfl, ho5, hB5⟩
          have HB5 : Hid (Below W.heap.size W w5) := HB4.out.trans (hB5.mono HB4.out.size)
          have hl5 : (b.w ++ [(⟨5, [], 0, F.length⟩ : Tok)]).length = k + 1 := by rw [List.length_append, Hbw.out]; rfl
          have HSM : Hid (Calls Try.prog 9 #[.slice (some ⟨g5, 0, none⟩) (k + 1) cap5, .slice (some ⟨g3, 0, none⟩) (k + 1) cap3] w5 fun e w' => e = .returned (.bool true) ∧ ∃ q, w' = w5.drewN q) := by
            have h1 := same_any _ _ _ _ w5 (TokRow.of_own ho5) (TokRow.of_own (cap := cap3) (base := W.heap.size) (g := g3) (by rw [hl5]; exact own_later HO4.out hB5)) (by rw [hl5]; omega)
            rw [hl5, decide_eq_true rfl] at h1
            exact h1
          rw [hl5]
          clear hB5 ho5 hl5
          go_wp2_with fail
          refine HSM.out.mono ?_
          rintro e w6 ⟨rfl, q, rfl⟩
          go_wp2
          go_ret
          exact ⟨rfl, below_drewN HB5.out q⟩
      · have hb0' : decide (0 < bs.length) = false := decide_eq_false hb0
        have hFe : F = b.s := by rw [HFd.out, if_pos (List.length_eq_zero_iff.1 (by omega)), List.append_nil]
        have HS : Hid (∀ w, Calls Try.prog 8 #[S b.s] w (ScanPost R w)) := fun w => by
          rw [← hFe, ← hRR]; exact scan_any F w
        have HR : Hid ((decide ((16000 : Int) < (b.s.length : Int)) = true ∧ R = .err 34 16000) ∨ (decide ((16000 : Int) < (b.s.length : Int)) = false ∧ R = .ok (b.w ++ [⟨5, [], 0, F.length⟩]))) := by
          have := HR.out
          rwa [show (F.length : Int) = (b.s.length : Int) by rw [hFe]] at this
        clear hRR
        have hlen : F.length = b.s.length := by rw [hFe]
        have hwl := Hbw.out
        go_wp2_with (at_builtin; refine Hid.out ?_)
        refine (show Hid _ from ?_)
        refine wpList_append_lies _ rfl _ _ 25 rfl W.heap.size 37 inf (.agg #[.int .i64 0, .string ⟨#[]⟩, .int .i64 0, .int .i64 0]) 4 40 Try.underlying25 HIN.out.1 HIN.out.2.1 HIN.out.2.2.1 HIN.out.2.2.2 rfl (by decide) (.slice ow k cw) k (tokCells b.w) rfl (HO.out.alloc _) ⟨wr.heap.size, 0, none⟩ 1 1 [.int .i64 5, S [], .int .i64 0, .int .i64 (b.s.length : Int)] rfl rfl (World.news_of_block (cs := #[.int .i64 5, S [], .int .i64 0, .int .i64 (b.s.length : Int)]) (t := 37) (fr := (0, 0)) (heap_alloc_new _ _)) (by simp [Value.oneCell']) (by omega) (by unfold maxLen; omega) (by omega) (by have h1 := HB.out.size; simp; omega) _ rfl ?_
        intro g3 cap3 w4 hown hgrow hat hlt3
        have HB4 : Hid (Below W.heap.size W w4) := (HB.out.alloc HB.out.size _).grown hgrow (by have h1 := HB.out.size; simp; omega) (fun q hq => (HO.out.lt q hq).1)
        have HO4 : Hid (w4.ownsRow W.heap.size 37 4 (.slice (some ⟨g3, 0, none⟩) (k + 1) cap3) (k + 1) (tokCells (b.w ++ [⟨5, [], 0, F.length⟩]))) := by
          show World.ownsRow _ _ _ _ _ _ _
          rw [tokCells_snoc, hlen]
          exact hown
        clear hown hgrow hat hlt3 hlen
        go_wp2_with fail
        refine (HS.out _).mono ?_
        rcases HR.out with ⟨h16, rfl⟩ | ⟨h16, rfl⟩
        · rintro e w5 ⟨rfl, hB5⟩
          have HB5 : Hid (Below W.heap.size W w5) := HB4.out.trans (hB5.mono HB4.out.size)
          clear hB5
          go_wp2
          go_ret
          exact ⟨rfl, HB5.out⟩
        · rintro e w5 ⟨g5, cap5, rfl, ho5, hB5⟩
          have HB5 : Hid (Below W.heap.size W w5) := HB4.out.trans (hB5.mono HB4.out.size)
          have hl5 : (b.w ++ [(⟨5, [], 0, F.length⟩ : Tok)]).length = k + 1 := by rw [List.length_append, Hbw.out]; rfl
          have HSM : Hid (Calls Try.prog 9 #[.slice (some ⟨g5, 0, none⟩) (k + 1) cap5, .slice (some ⟨g3, 0, none⟩) (k + 1) cap3] w5 fun e w' => e = .returned (.bool true) ∧ ∃ q, w' = w5.drewN q) := by
            have h1 := same_any _ _ _ _ w5 (TokRow.of_own ho5) (TokRow.of_own (cap := cap3) (base := W.heap.size) (g := g3) (by rw [hl5]; exact own_later HO4.out hB5)) (by rw [hl5]; omega)
            rw [hl5, decide_eq_true rfl] at h1
            exact h1
          rw [hl5]
          clear hB5 ho5 hl5
          go_wp2_with fail
          refine HSM.out.mono ?_
          rintro e w6 ⟨rfl, q, rfl⟩
          go_wp2
          go_ret
          exact ⟨rfl, below_drewN HB5.out q⟩

set_option maxRecDepth 4000 in
theorem lexParts_over (v vb : Value) (m : Nat) (W : World) (hL : ¬ m ≤ 2147483647) (HL : Hid (Calls Try.prog 15 #[v, vb] W (LongPost m W))) :
    Calls Try.prog 5 #[v, vb] W fun e w' => e = .returned (.bool true) ∧ Below W.heap.size W w' := by
  have HN : Hid (¬ m ≤ 2147483647) := hL
  clear hL
  go_enter Try.func5, Try.ntmps5
  go_wp2_with fail
  refine HL.out.mono ?_
  rintro e w' ⟨bl, rfl, hw, hb⟩
  have hw1 := hw.symm
  clear hw
  subst hw1
  cases bl
  · exact absurd (hb rfl) HN.out
  · clear hb
    go_wp2
    go_ret
    exact ⟨rfl, Below.refl _ _⟩

theorem lexParts_any (ps : List Pc) (bs : List Int) (v vb : Value) (gv : Nat → Option Addr × Nat) (W : World) (h : PcsAt W v ps gv) (hb : IntAt W vb bs) (hl : (ps.length : Int) ≤ 9223372036854775807) (hl2 : (bs.length : Int) ≤ 9223372036854775807) :
    Calls Try.prog 5 #[v, vb] W fun e w' => e = .returned (.bool true) ∧ Below W.heap.size W w' := by
  obtain ⟨ob, capb, _, _, hv, _⟩ := hb.ex
  have HL := long_any ps bs v vb gv W h ⟨ob, capb, hv⟩ hl hl2
  by_cases hL : wOf bs.length + wSum ps ≤ 2147483647
  · exact lexParts_main ps bs v vb gv W h hb hl hl2 hL HL
  · exact lexParts_over v vb _ W hL HL

end Go.Proofs.Ythnnmgiihpdblab
