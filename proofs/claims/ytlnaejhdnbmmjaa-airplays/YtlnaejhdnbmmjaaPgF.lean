/- The document's Air in memory: New, Now, Tick, Flying. The document's Air: Send, Double. The document's Air: Deliver, Drop. -/
import Derived.Test.YtlnaejhdnbmmjaaPgE
namespace Go.Proofs.Ytlnaejhdnbmmjaa
open Go.RowKit
/-- The document's Air: its block; its list, which it owns. -/
structure DA (w : World) (B q : Nat) (l : List Pk) (now : Int) (v : Value) : Prop where
  blk : w.heap[q]? = some (.cells #[v, .int .i64 now] 55 (0, 0))
  own : w.ownsRow B 37 3 v l.length (pks l)
  ne : ∀ g, v.ownBlock = some g → g ≠ q
  most : l.length ≤ 1000
  hB : B ≤ w.heap.size
/-- What stays behind a call of it, and where its list lies then. -/
structure DK (q : Nat) (v v' : Value) (w w' : World) : Prop where
  os : w'.os = w.os
  tape : w'.tape = w.tape
  output : w'.output = w.output
  size : w.heap.size ≤ w'.heap.size
  block : ∀ b, b < w.heap.size → b ≠ q → some b ≠ v.ownBlock → w'.heap[b]? = w.heap[b]?
  row : ∀ g, v'.ownBlock = some g → v.ownBlock = some g ∨ w.heap.size ≤ g
theorem DK.refl (q : Nat) (v : Value) (w : World) : DK q v v w w := ⟨rfl, rfl, rfl, Nat.le_refl _, fun _ _ _ _ => rfl, fun _ h => .inl h⟩
theorem DK.of_below {q : Nat} {v : Value} {w w' : World} (h : Below w.heap.size w w') : DK q v v w w' := ⟨h.os, h.tape, h.output, h.size, fun b hb _ _ => h.block b hb, fun _ h => .inl h⟩
theorem DK.trans {q : Nat} {v v1 v2 : Value} {a b c : World} (h : DK q v v1 a b) (k : DK q v1 v2 b c) : DK q v v2 a c := by
  refine ⟨k.os.trans h.os, k.tape.trans h.tape, k.output.trans h.output, Nat.le_trans h.size k.size, fun i hi hq hv => ?_, fun g hg => ?_⟩
  · refine (k.block i (Nat.lt_of_lt_of_le hi h.size) hq (fun e => ?_)).trans (h.block i hi hq hv)
    rcases h.row i e.symm with e2 | e2
    · exact hv e2.symm
    · omega
  · rcases k.row g hg with e | e
    · exact h.row g e
    · exact .inr (Nat.le_trans h.size e)
section
variable {w w' : World} {B q : Nat} {l : List Pk} {now : Int} {v : Value}
theorem DA.lt (h : DA w B q l now v) : q < w.heap.size := (Array.getElem?_eq_some_iff.1 h.blk).1
theorem DA.c0 (h : DA w B q l now v) : w.cell? ⟨q, 0, none⟩ = some v := by unfold World.cell?; rw [h.blk]; rfl
theorem DA.c1 (h : DA w B q l now v) : w.cell? ⟨q, 1, none⟩ = some (.int .i64 now) := by unfold World.cell?; rw [h.blk]; rfl
theorem DA.f0 (h : DA w B q l now v) : w.frozen? ⟨q, 0, none⟩ = false := by unfold World.frozen?; rw [h.blk]; rfl
theorem DA.f1 (h : DA w B q l now v) : w.frozen? ⟨q, 1, none⟩ = false := by unfold World.frozen?; rw [h.blk]; rfl
theorem DA.kept (h : DA w B q l now v) (h1 : w'.heap[q]? = w.heap[q]?) (h2 : ∀ g, v.ownBlock = some g → w'.heap[g]? = w.heap[g]?) (hs : w.heap.size ≤ w'.heap.size) : DA w' B q l now v :=
  ⟨h1.trans h.blk, own_block h.own h2, h.ne, h.most, Nat.le_trans h.hB hs⟩
theorem DA.below (h : DA w B q l now v) (hB : Below w.heap.size w w') : DA w' B q l now v := h.kept (hB.block q h.lt) (fun g hg => hB.block g (h.own.lt g hg).2) hB.size
theorem DA.form (h : DA w B q l now v) : ∃ a c, v = .slice a l.length c ∧ l.length ≤ c := by
  rcases h.own.2 with ⟨rfl, h0⟩ | ⟨g2, c2, cur, rfl, _, _, h4, _⟩
  · exact ⟨none, 0, by rw [h0], by omega⟩
  · exact ⟨_, c2, rfl, h4⟩
end
theorem dnew_any (w : World) (B : Nat) (hB : B ≤ w.heap.size) : Calls Try.prog 8 #[] w fun e w' => e = .returned (.pointer (some ⟨w.heap.size, 0, none⟩)) ∧ DA w' B w.heap.size [] 0 (.slice none 0 0) ∧ Below w.heap.size w w' := by
  have HB := hid hB
  clear hB
  go_enter Try.func8, Try.ntmps8
  go_wp2
  go_ret
  exact ⟨rfl, ⟨heap_alloc_new _ _, World.ownsRow_nil _ _ _ _, fun g e => by simp [Value.ownBlock] at e, by simp, Nat.le_trans HB.out (below_new _ _).size⟩, below_new _ _⟩
theorem dnow_any {w : World} {B q : Nat} {l : List Pk} {now : Int} {v : Value} (h : DA w B q l now v) :
    Calls Try.prog 27 #[.pointer (some ⟨q, 0, none⟩)] w fun e w' => e = .returned (.int .i64 now) ∧ w' = w := by
  have h0 := h.c1
  clear h
  go_enter Try.func27, Try.ntmps27
  go_wp2
  go_ret
  exact ⟨rfl, rfl⟩
theorem dtick_any {w : World} {B q : Nat} {l : List Pk} {now : Int} {v : Value} (h : DA w B q l now v) (hn : -1000000000000 ≤ now ∧ now ≤ 1000000000000) :
    Calls Try.prog 26 #[.pointer (some ⟨q, 0, none⟩)] w fun e w' => e = .returned (.int .i64 (now + 1)) ∧ DA w' B q l (now + 1) v ∧ DK q v v w w' := by
  have h0 := h.c1
  have h1 := h.f1
  have HP : Hid (DA (w.setCell ⟨q, 1, none⟩ (.int .i64 (now + 1))) B q l (now + 1) v ∧ DK q v v w (w.setCell ⟨q, 1, none⟩ (.int .i64 (now + 1)))) := by
    refine ⟨⟨(heap_set2 h.blk _).2, own_block h.own (fun g hg => Below.heap_setCell _ _ _ g (h.ne g hg)), h.ne, h.most, by simpa using h.hB⟩, ⟨rfl, rfl, rfl, by simp, fun b _ hb _ => Below.heap_setCell _ _ _ b hb, fun _ h => .inl h⟩⟩
  clear h
  go_enter Try.func26, Try.ntmps26
  go_wp2
  go_ret
  exact ⟨rfl, HP.out⟩
theorem dfly_run {w : World} {B q : Nat} {l : List Pk} {now : Int} {v : Value} (ty : TypeId) (h : DA w B q l now v) :
    ∃ ob cap w', (Builtin.append_ #[43, 43] ty #[.slice none 0 0, v]).run Try.prog w = .ok (.slice ob l.length cap) w' ∧ FlyP w w' l ob cap ∧ w.grownBy w' none := by
  rcases Nat.eq_zero_or_pos l.length with h0 | h0
  · obtain ⟨a, c, rfl, hc⟩ := h.form
    obtain rfl := List.eq_nil_of_length_eq_zero h0
    exact ⟨none, 0, w, app_none w ty none a 0 0 c (Nat.le_refl _), .inl ⟨rfl, rfl⟩, grown_refl _ _⟩
  · obtain ⟨g, c, rfl, hq1, hq2, hlc, hat⟩ := own_at h.own h0
    have hm := h.most
    obtain ⟨cap, w', hr, ho, hg, hs⟩ := app_grow w ty none 0 [] l 0 g 0 c rfl (.inr ⟨rfl, rfl⟩) ⟨fun i t h => by simp at h, fun i t h => by simp at h, fun i t h => by simp at h⟩ hat h0 (by omega)
    simp only [Nat.zero_add, List.nil_append] at hr ho
    exact ⟨_, cap, w', hr, .inr ⟨rfl, ho⟩, hg⟩
theorem dflying_any {w : World} {B q : Nat} {l : List Pk} {now : Int} {v : Value} (h : DA w B q l now v) :
    Calls Try.prog 25 #[.pointer (some ⟨q, 0, none⟩)] w fun e w' => ∃ ob cap, e = .returned (.slice ob l.length cap) ∧ FlyP w w' l ob cap ∧ Below w.heap.size w w' := by
  obtain ⟨ob, cap, w', hr, hF, hg⟩ := dfly_run 43 h
  have HR := hid hr
  have HF : Hid (FlyP w w' l ob cap ∧ Below w.heap.size w w') := ⟨hF, below_none hg⟩
  have h0 := h.c0
  obtain ⟨a, c, rfl, _⟩ := h.form
  generalize hL : l.length = m at *
  clear hr hg hF h
  go_enter Try.func25, Try.ntmps25
  go_wp2_with (at_builtin; refine Hid.out ?_)
  refine (show Hid _ from ?_)
  refine wpList_app rfl _ _ 43 rfl _ _ _ _ rfl rfl HR.out ?_
  go_wp2
  go_ret
  exact ⟨_, _, rfl, HF.out⟩
end Go.Proofs.Ytlnaejhdnbmmjaa
namespace Go.Proofs.Ytlnaejhdnbmmjaa
open Go.RowKit
section
variable {w : World} {B q : Nat} {l : List Pk} {now : Int} {v : Value}
/-- one put behind -/
theorem DA.app {b : Nat} {x : Pk} (h : DA w B q l now v) (hb : PkAt w b 0 [x]) (hm : l.length < 1000) :
    ∃ g cap w', (∀ ty, (Builtin.append_ #[43, 43] ty #[v, .slice (some ⟨b, 0, none⟩) 1 1]).run Try.prog w = .ok (.slice (some ⟨g, 0, none⟩) (l.length + 1) cap) w') ∧ (w'.cell? ⟨q, 0, none⟩ = some v ∧ w'.frozen? ⟨q, 0, none⟩ = false) ∧
      DA (w'.setCell ⟨q, 0, none⟩ (.slice (some ⟨g, 0, none⟩) (l.length + 1) cap)) B q (l ++ [x]) now (.slice (some ⟨g, 0, none⟩) (l.length + 1) cap) ∧ DK q v (.slice (some ⟨g, 0, none⟩) (l.length + 1) cap) w (w'.setCell ⟨q, 0, none⟩ (.slice (some ⟨g, 0, none⟩) (l.length + 1) cap)) := by
  obtain ⟨i, hi, hz, hs, hby⟩ := info37_ex
  obtain ⟨g, cap, w', hr, ho, hg, hat, hlt⟩ := run_append_lies (P := Try.prog) w 43 0 B 37 i _ 3 32 Try.underlying43 hi hz hs hby rfl (by decide) v l.length (pks l) h.own ⟨b, 0, none⟩ 1 1 (pks [x]) rfl (fun j u hu => by rw [Addr.add_lit]; exact hb.cells j u hu) (pks_one' _) (by omega) (by unfold maxLen; omega) (by omega) h.hB w.heap.size rfl
  have hq : w'.heap[q]? = w.heap[q]? := hg.block q h.lt (fun e => h.ne q e.symm rfl)
  have hgq : g ≠ q := by
    rcases hat with e | e
    · exact h.ne g e
    · have := h.lt; omega
  have hlen : (l ++ [x]).length = l.length + 1 := by simp
  rw [← pks_app] at ho
  refine ⟨g, cap, w', fun ty => hr, ⟨(World.cell?_of_block (a := ⟨q, 0, none⟩) hq).trans h.c0, (World.frozen?_of_block (a := ⟨q, 0, none⟩) hq).trans h.f0⟩, ⟨(heap_set2 (hq.trans h.blk) _).1, ?_, ?_, by omega, ?_⟩, ⟨hg.os, hg.tape, hg.output, by simpa using hg.size, ?_, ?_⟩⟩
  · rw [hlen]
    exact own_block ho (fun k hk => by cases hk; exact Below.heap_setCell _ _ _ _ hgq)
  · intro k hk; cases hk; exact hgq
  · have := h.hB; have := hg.size; simp; omega
  · intro k hk hkq hkv
    rw [Below.heap_setCell _ _ _ k hkq]
    exact hg.block k hk hkv
  · intro k hk
    cases hk
    rcases hat with e | e
    · exact .inl e
    · exact .inr (by show w.heap.size ≤ g; omega)
theorem DA.del {n : Nat} {s1 v1 s2 v2 : Value} {w1 w2 : World} (h : DA w B q l now v) (hn : n < l.length) (hd : Del w B v l n s1 v1 s2 v2 w1 w2) :
    (w2.cell? ⟨q, 0, none⟩ = some v ∧ w2.frozen? ⟨q, 0, none⟩ = false) ∧ DA (w2.setCell ⟨q, 0, none⟩ v2) B q (without l n) now v2 ∧ DK q v v2 w (w2.setCell ⟨q, 0, none⟩ v2) := by
  have hq : w2.heap[q]? = w.heap[q]? := hd.below.block q h.lt
  have hlt := h.lt
  have hne : ∀ g, v2.ownBlock = some g → g ≠ q := fun g hg => by have := hd.low g hg; omega
  have hm := h.most
  have hwl := without_len l n hn
  refine ⟨⟨(World.cell?_of_block (a := ⟨q, 0, none⟩) hq).trans h.c0, (World.frozen?_of_block (a := ⟨q, 0, none⟩) hq).trans h.f0⟩, ⟨(heap_set2 (hq.trans h.blk) _).1, own_block hd.own (fun k hk => Below.heap_setCell _ _ _ _ (hne k hk)), hne, by omega, ?_⟩, ⟨hd.below.os, hd.below.tape, hd.below.output, by simpa using hd.below.size, ?_, fun g hg => .inr (hd.low g hg)⟩⟩
  · have := h.hB; have := hd.below.size; simp; omega
  · intro k hk hkq _
    rw [Below.heap_setCell _ _ _ k hkq]
    exact hd.below.block k hk
end
/-- an Air of the document behind a call -/
def DAx (w w' : World) (B q : Nat) (l : List Pk) (now : Int) (v : Value) : Prop := ∃ v', DA w' B q l now v' ∧ DK q v v' w w'
theorem DA.x {w w' : World} {B q : Nat} {l : List Pk} {now : Int} {v : Value} (h : DA w B q l now v) (hB : Below w.heap.size w w') : DAx w w' B q l now v := ⟨v, h.below hB, DK.of_below hB⟩
theorem DAx.before {w0 w w' : World} {B q : Nat} {l : List Pk} {now : Int} {v : Value} (h : DAx w w' B q l now v) (hB : Below w0.heap.size w0 w) : DAx w0 w' B q l now v := by
  obtain ⟨v', h1, h2⟩ := h
  exact ⟨v', h1, (DK.of_below hB).trans h2⟩

set_option maxHeartbeats 2000000 in
theorem dsend_any {w : World} {B q : Nat} {l : List Pk} {now : Int} {v : Value} (x : Pk) (h : DA w B q l now v) :
    Calls Try.prog 21 #[.pointer (some ⟨q, 0, none⟩), pkA x] w fun e w' => e = .returned (.int .i64 (sendE l x)) ∧ DAx w w' B q (sendL l x) now v := by
  unfold sendE sendL
  obtain ⟨w1, hw1⟩ : ∃ w1, w.alloc (.cells #[.int .i64 x.fr, .int .i64 x.to, .string x.da] 37) = w1 := ⟨_, rfl⟩
  have hB1 : Below w.heap.size w w1 := by rw [← hw1]; exact below_new _ _
  have hk1 : Bk w1 w.heap.size [.int .i64 x.fr, .int .i64 x.to, .string x.da] 37 := by rw [← hw1]; exact Bk.new w [.int .i64 x.fr, .int .i64 x.to, .string x.da] 37
  have h1 := h.below hB1
  have x2 := hk1.cell 2 rfl
  obtain ⟨a, c, rfl, hc⟩ := h.form
  have h0 := h1.c0
  by_cases hl : x.da.size ≤ 1500
  · rw [if_pos hl, if_pos hl]
    have hd : decide ((1500 : Int) < (x.da.size : Int)) = false := decide_eq_false (by omega)
    unfold putE putL
    by_cases hm : l.length < 1000
    · rw [if_pos hm, if_pos hm]
      have hm2 : decide ((1000 : Int) ≤ (l.length : Int)) = false := decide_eq_false (by omega)
      have x0 := hk1.cell 0 rfl
      have x1 := hk1.cell 1 rfl
      have hB2 : Below w1.heap.size w1 ((w1.alloc (.cells #[.int .i64 x.fr, .int .i64 x.to, .string x.da] 37)).drew) := ((Below.refl _ _).alloc (Nat.le_refl _) _).drew
      have h2 := h1.below hB2
      have h0' : (w1.alloc (.cells #[.int .i64 x.fr, .int .i64 x.to, .string x.da] 37)).cell? ⟨q, 0, none⟩ = some (.slice a l.length c) := h2.c0
      obtain ⟨g', c', w', hr, hcf, hA, hK⟩ := h2.app (PkAt.block1 (heap_alloc_new w1 _)) hm
      have hc0 := hcf.1
      have hf0 := hcf.2
      have HR := hid (hr 43)
      have HP : Hid (DAx w (w'.setCell ⟨q, 0, none⟩ (.slice (some ⟨g', 0, none⟩) (l.length + 1) c')) B q (l ++ [x]) now (.slice a l.length c)) := DAx.before (DAx.before ⟨_, hA, hK⟩ hB2) hB1
      generalize hL : l.length = m at *
      clear hl hm h1 hB1 hk1 h hB2 h2 hr hcf hA hK hc
      go_enter Try.func21, Try.ntmps21
      go_wp2_with fail
      clear hw1
      go_region_law (first
        | (refine step_app rfl (.tmp 19) (.tmp 21) 43 rfl (.slice a m c) (.slice (some ⟨w1.heap.size, 0, none⟩) 1 1) _ _ (by go_simp) (by go_simp) HR.out ?_))
      all_goals (
        go_wp2
        go_ret
        exact ⟨rfl, HP.out⟩)
    · rw [if_neg hm, if_neg hm]
      have hm2 : decide ((1000 : Int) ≤ (l.length : Int)) = true := decide_eq_true (by omega)
      have HP := hid (h.x hB1)
      generalize hL : l.length = m at *
      clear hl hm h1 hB1 hk1 h hc
      go_enter Try.func21, Try.ntmps21
      go_wp2
      go_ret
      exact ⟨rfl, HP.out⟩
  · rw [if_neg hl, if_neg hl]
    have hd : decide ((1500 : Int) < (x.da.size : Int)) = true := decide_eq_true (by omega)
    have HP := hid (h.x hB1)
    generalize hL : l.length = m at *
    clear hl h1 hB1 hk1 h hc
    go_enter Try.func21, Try.ntmps21
    go_wp2
    go_ret
    exact ⟨rfl, HP.out⟩

theorem hasP_false {l : List Pk} {n : Int} (h : hasP l n = false) : n < 0 ∨ 0 ≤ n ∧ (l.length : Int) ≤ n := by
  unfold hasP at h
  by_cases h0 : 0 ≤ n
  · simp [h0] at h; omega
  · omega
set_option maxHeartbeats 2000000 in
theorem ddouble_any {w : World} {B q : Nat} {l : List Pk} {now : Int} {v : Value} (n : Int) (h : DA w B q l now v) :
    Calls Try.prog 24 #[.pointer (some ⟨q, 0, none⟩), .int .i64 n] w fun e w' => e = .returned (.int .i64 (dblE l n)) ∧ DAx w w' B q (dblL l n) now v := by
  have h0 := h.c0
  cases hh : hasP l n
  · have hX := has_no hh
    rw [hX.2.2.2.1, hX.2.2.2.2]
    have HP := hid (h.x (Below.refl _ _))
    obtain ⟨a, c, rfl, hc⟩ := h.form
    generalize hL : l.length = m at *
    rcases hasP_false hh with hn | ⟨hn0, hn1⟩
    · clear hX hh h hc
      go_enter Try.func24, Try.ntmps24
      go_wp2
      go_ret
      exact ⟨rfl, HP.out⟩
    · rw [hL] at hn1
      have hn0' : ¬ n < 0 := by omega
      have hd : decide ((m : Int) ≤ n) = true := decide_eq_true hn1
      clear hX hh h hc
      go_enter Try.func24, Try.ntmps24
      go_wp2
      go_ret
      exact ⟨rfl, HP.out⟩
  · obtain ⟨k, rfl, hk⟩ := hasP_nat hh
    obtain ⟨x, hx⟩ : ∃ x, l[k]? = some x := ⟨_, List.getElem?_eq_getElem hk⟩
    have hX := has_x hh hx
    rw [hX.2.2.2.1, hX.2.2.2.2]
    obtain ⟨gq, c, rfl, hq1, hq2, hlc, hat⟩ := own_at h.own (by omega)
    have hk' : (k : Int) < (l.length : Int) := by omega
    have hkd : decide ((l.length : Int) ≤ (k : Int)) = false := decide_eq_false (by omega)
    have a0 := hat.c0 k x hx
    have a1 := hat.c1 k x hx
    have a2 := hat.c2 k x hx
    rw [Nat.zero_add] at a0 a1 a2
    unfold putE putL
    by_cases hm : l.length < 1000
    · rw [if_pos hm, if_pos hm]
      have hm2 : decide ((1000 : Int) ≤ (l.length : Int)) = false := decide_eq_false (by omega)
      have hB2 : Below w.heap.size w ((w.alloc (.cells #[.int .i64 x.fr, .int .i64 x.to, .string x.da] 37)).drew) := ((Below.refl _ _).alloc (Nat.le_refl _) _).drew
      have h2 := h.below hB2
      have h0' : (w.alloc (.cells #[.int .i64 x.fr, .int .i64 x.to, .string x.da] 37)).cell? ⟨q, 0, none⟩ = some (.slice (some ⟨gq, 0, none⟩) l.length c) := h2.c0
      obtain ⟨g', c', w', hr, hcf, hA, hK⟩ := h2.app (PkAt.block1 (heap_alloc_new w _)) hm
      have hc0 := hcf.1
      have hf0 := hcf.2
      have HR := hid (hr 43)
      have HP : Hid (DAx w (w'.setCell ⟨q, 0, none⟩ (.slice (some ⟨g', 0, none⟩) (l.length + 1) c')) B q (l ++ [x]) now (.slice (some ⟨gq, 0, none⟩) l.length c)) := DAx.before ⟨_, hA, hK⟩ hB2
      generalize hL : l.length = m at *
      clear hh hm h hB2 h2 hr hcf hA hK hq1 hq2 hlc hat hX hx hk
      go_enter Try.func24, Try.ntmps24
      go_wp2_with fail
      go_region_law (first
        | (refine step_app rfl (.tmp 28) (.tmp 36) 43 rfl (.slice (some ⟨gq, 0, none⟩) m c) (.slice (some ⟨w.heap.size, 0, none⟩) 1 1) _ _ (by go_simp) (by go_simp) HR.out ?_))
      all_goals (
        go_wp2
        go_ret
        exact ⟨rfl, HP.out⟩)
    · rw [if_neg hm, if_neg hm]
      have hm2 : decide ((1000 : Int) ≤ (l.length : Int)) = true := decide_eq_true (by omega)
      have HP := hid (h.x (Below.refl _ _))
      generalize hL : l.length = m at *
      clear hh hm h hq1 hq2 hlc hat hX hx a0 a1 a2 hk
      go_enter Try.func24, Try.ntmps24
      go_wp2
      go_ret
      exact ⟨rfl, HP.out⟩
end Go.Proofs.Ytlnaejhdnbmmjaa
namespace Go.Proofs.Ytlnaejhdnbmmjaa
open Go.RowKit
theorem DAx.set3 {w w' : World} {B q b : Nat} {l : List Pk} {now : Int} {v : Value} (h : DAx w w' B q l now v) (hb : w.heap.size ≤ b) (hq : q < w.heap.size) (hl : ∀ v' g, w'.heap[q]? = some (.cells #[v', .int .i64 now] 55 (0, 0)) → v'.ownBlock = some g → g ≠ b) (x0 x1 x2 : Value) :
    DAx w (((w'.setCell ⟨b, 0, none⟩ x0).setCell ⟨b, 1, none⟩ x1).setCell ⟨b, 2, none⟩ x2) B q l now v := by
  obtain ⟨v', h1, h2⟩ := h
  have hs : ∀ k, k ≠ b → (((w'.setCell ⟨b, 0, none⟩ x0).setCell ⟨b, 1, none⟩ x1).setCell ⟨b, 2, none⟩ x2).heap[k]? = w'.heap[k]? := fun k hk => by
    rw [Below.heap_setCell _ _ _ k hk, Below.heap_setCell _ _ _ k hk, Below.heap_setCell _ _ _ k hk]
  refine ⟨v', h1.kept (hs q (by omega)) (fun g hg => hs g (hl v' g h1.blk hg)) (by simp), ⟨h2.os, h2.tape, h2.output, by simpa using h2.size, fun k hk hkq hkv => ?_, h2.row⟩⟩
  rw [hs k (by omega)]
  exact h2.block k hk hkq hkv
set_option maxHeartbeats 2000000 in
theorem ddeliver_any {w : World} {B q : Nat} {l : List Pk} {now : Int} {v : Value} (n : Int) (h : DA w B q l now v) :
    Calls Try.prog 22 #[.pointer (some ⟨q, 0, none⟩), .int .i64 n] w fun e w' => e = .returned (.tuple #[pkA (dlvP l n), .int .i64 (dropE l n)]) ∧ DAx w w' B q (dropL l n) now v := by
  obtain ⟨wa, hwa⟩ : ∃ wa, w.alloc (.cells #[.int .i64 0, .int .i64 0, .string ⟨#[]⟩] 37) = wa := ⟨_, rfl⟩
  have hBa : Below w.heap.size w wa := by rw [← hwa]; exact below_new _ _
  have hka : Bk wa w.heap.size [.int .i64 0, .int .i64 0, .string ⟨#[]⟩] 37 := by rw [← hwa]; exact Bk.new w [.int .i64 0, .int .i64 0, .string ⟨#[]⟩] 37
  have hsa : wa.heap.size = w.heap.size + 1 := by rw [← hwa]; simp
  have ha := h.below hBa
  have hlt := h.lt
  have h0 := ha.c0
  cases hh : hasP l n
  · have hX := has_no hh
    rw [hX.1, hX.2.1, hX.2.2.1]
    have hz := hka.set3 (.int .i64 0) (.int .i64 0) (.string ⟨#[]⟩)
    have q0 := hz.cell 0 rfl
    have q1 := hz.cell 1 rfl
    have q2 := hz.cell 2 rfl
    have s0 := hka.cell 0 rfl
    have s1 := hka.cell 1 rfl
    have s2 := hka.cell 2 rfl
    have f0 := hka.frozen 0
    have f1 := hka.frozen 1
    have f2 := hka.frozen 2
    have HP : Hid (DAx w (((wa.setCell ⟨w.heap.size, 0, none⟩ (.int .i64 0)).setCell ⟨w.heap.size, 1, none⟩ (.int .i64 0)).setCell ⟨w.heap.size, 2, none⟩ (.string ⟨#[]⟩)) B q l now v) :=
      (h.x hBa).set3 (Nat.le_refl _) hlt (fun v' g e1 e2 => by
        rw [ha.blk] at e1
        simp at e1
        subst e1
        have := (h.own.lt g e2).2
        omega) _ _ _
    obtain ⟨a, c, rfl, hc⟩ := h.form
    generalize hL : l.length = m at *
    rcases hasP_false hh with hn | ⟨hn0, hn1⟩
    · clear hX hh h hc ha hka hz hBa hsa hlt
      go_enter Try.func22, Try.ntmps22
      go_wp2
      refine bodyPost_ret (v := .tuple #[pkA nulP, .int .i64 130]) (by simp [results, Try.results22, go_sem, q0, q1, q2, nulP]) rfl ⟨rfl, HP.out⟩
    · rw [hL] at hn1
      have hn0' : ¬ n < 0 := by omega
      have hd : decide ((m : Int) ≤ n) = true := decide_eq_true hn1
      clear hX hh h hc ha hka hz hBa hsa hlt
      go_enter Try.func22, Try.ntmps22
      go_wp2
      refine bodyPost_ret (v := .tuple #[pkA nulP, .int .i64 130]) (by simp [results, Try.results22, go_sem, q0, q1, q2, nulP]) rfl ⟨rfl, HP.out⟩
  · obtain ⟨k, rfl, hk⟩ := hasP_nat hh
    obtain ⟨x, hx⟩ : ∃ x, l[k]? = some x := ⟨_, List.getElem?_eq_getElem hk⟩
    have hX := has_x hh hx
    rw [hX.1, hX.2.1, hX.2.2.1]
    obtain ⟨gq, c, rfl, hq1, hq2, hlc, -⟩ := own_at h.own (by omega)
    have hat : PkAt wa gq 0 l := PkAt.of_own ha.own
    have hk' : (k : Int) < (l.length : Int) := by omega
    have hkd : decide ((l.length : Int) ≤ (k : Int)) = false := decide_eq_false (by omega)
    have a0 := hat.c0 k x hx
    have a1 := hat.c1 k x hx
    have a2 := hat.c2 k x hx
    rw [Nat.zero_add] at a0 a1 a2
    obtain ⟨wb, hwb⟩ : ∃ wb, wa.alloc (.cells #[.int .i64 x.fr, .int .i64 x.to, .string x.da] 37) = wb := ⟨_, rfl⟩
    have hBb : Below wa.heap.size wa wb := by rw [← hwb]; exact below_new _ _
    have hkb : Bk wb wa.heap.size [.int .i64 x.fr, .int .i64 x.to, .string x.da] 37 := by rw [← hwb]; exact Bk.new wa [.int .i64 x.fr, .int .i64 x.to, .string x.da] 37
    have hkab := hka.below hBb hka.lt
    have hb := ha.below hBb
    have hm := h.most
    obtain ⟨s1, v1, s2, v2, wc, wd, hdd⟩ := del_run hb.own (n := k) hk (by omega) hb.hB
    have hf1 := hdd.f1
    have hf2 := hdd.f2
    have HDD := hid hdd
    have hw64 : wrap64 ((k : Int) + 1) = (k : Int) + 1 := by
      have := IntKind.wrap_i64 ((k : Int) + 1)
      unfold wrap64
      omega
    have hb0 := hb.c0
    have hc0w : wc.cell? ⟨q, 0, none⟩ = some (.slice (some ⟨gq, 0, none⟩) l.length c) := (hdd.below1.cell (p := ⟨q, 0, none⟩) hb.lt).trans hb0
    have hdel := hb.del hk hdd
    have hc0 := hdel.1.1
    have hf0 := hdel.1.2
    obtain ⟨we, hwe⟩ : ∃ we, wd.setCell ⟨q, 0, none⟩ v2 = we := ⟨_, rfl⟩
    have hA2 := hdel.2.1
    have hK2 := hdel.2.2
    rw [hwe] at hA2 hK2
    have hgl : gq < w.heap.size := hq2
    have hsb := hBb.size
    have k1 : Bk we wa.heap.size [.int .i64 x.fr, .int .i64 x.to, .string x.da] 37 := hkb.of (hK2.block _ hkb.lt (by omega) (by simp [Value.ownBlock]; omega))
    have k2 : Bk we w.heap.size [.int .i64 0, .int .i64 0, .string ⟨#[]⟩] 37 := hkab.of (hK2.block _ hkab.lt (by omega) (by simp [Value.ownBlock]; omega))
    have z0 := k1.cell 0 rfl
    have z1 := k1.cell 1 rfl
    have z2 := k1.cell 2 rfl
    have t0 := k2.cell 0 rfl
    have t1 := k2.cell 1 rfl
    have t2 := k2.cell 2 rfl
    have f0 := k2.frozen 0
    have f1 := k2.frozen 1
    have f2 := k2.frozen 2
    have hz := k2.set3 (.int .i64 x.fr) (.int .i64 x.to) (.string x.da)
    have q0 := hz.cell 0 rfl
    have q1 := hz.cell 1 rfl
    have q2 := hz.cell 2 rfl
    have HP : Hid (DAx w (((we.setCell ⟨w.heap.size, 0, none⟩ (.int .i64 x.fr)).setCell ⟨w.heap.size, 1, none⟩ (.int .i64 x.to)).setCell ⟨w.heap.size, 2, none⟩ (.string x.da)) B q (without l k) now (.slice (some ⟨gq, 0, none⟩) l.length c)) := by
      refine (DAx.before (DAx.before ⟨_, hA2, hK2⟩ hBb) hBa).set3 (Nat.le_refl _) hlt (fun v' g e1 e2 => ?_) _ _ _
      rw [hA2.blk] at e1
      simp at e1
      subst e1
      have := hdd.low g e2
      omega
    generalize hL : l.length = m at *
    clear hdel hA2 hK2 k1 k2 hz hdd hb hkab hkb hBb hat hX hx hh h ha hka hBa hsa hlt hk hq1 hq2 hlc hgl hsb hm
    go_enter Try.func22, Try.ntmps22
    go_wp2_with (at_builtin; refine Hid.out ?_)
    refine (show Hid _ from ?_)
    refine wpList_app rfl _ _ 43 rfl _ _ _ _ rfl rfl (HDD.out.a1 _) ?_
    clear hwa hwb
    go_wp2_with (at_builtin; refine Hid.out ?_)
    refine (show Hid _ from ?_)
    refine wpList_app rfl _ _ 43 rfl _ _ _ _ rfl rfl (HDD.out.a2 _) ?_
    clear hf1 hf2 hw64
    obtain ⟨o2, n2, c2, hv2⟩ : ∃ o n c, v2 = .slice o n c := by
      rcases HDD.out.own.2 with ⟨e, _⟩ | ⟨g2, c2, cur, e, _⟩
      · exact ⟨_, _, _, e⟩
      · exact ⟨_, _, _, e⟩
    subst hv2
    go_wp2
    refine bodyPost_ret (v := .tuple #[pkA x, .int .i64 0]) (by simp [results, Try.results22, go_sem, q0, q1, q2]) rfl ⟨rfl, HP.out⟩
theorem ddrop_any {w : World} {B q : Nat} {l : List Pk} {now : Int} {v : Value} (n : Int) (h : DA w B q l now v) :
    Calls Try.prog 23 #[.pointer (some ⟨q, 0, none⟩), .int .i64 n] w fun e w' => e = .returned (.int .i64 (dropE l n)) ∧ DAx w w' B q (dropL l n) now v := by
  have H1 := hid (ddeliver_any n h)
  obtain ⟨x, hx⟩ : ∃ x, dlvP l n = x := ⟨_, rfl⟩
  rw [hx] at H1
  clear hx h
  go_enter Try.func23, Try.ntmps23
  go_wp2_with fail
  refine H1.out.mono ?_
  rintro e w1 ⟨rfl, v1, hA, hK⟩
  have hB : Below w1.heap.size w1 (w1.alloc (.cells #[.int .i64 x.fr, .int .i64 x.to, .string x.da] 37)) := below_new _ _
  have HP : Hid (DAx w (w1.alloc (.cells #[.int .i64 x.fr, .int .i64 x.to, .string x.da] 37)) B q (dropL l n) now v) := ⟨v1, hA.below hB, hK.trans (DK.of_below hB)⟩
  clear hA hK hB H1
  go_wp2
  go_ret
  exact ⟨rfl, HP.out⟩
end Go.Proofs.Ytlnaejhdnbmmjaa
