/- Water, busy, Busy. -/
import Derived.Test.YtnpffhgmakbdnaaRoMg
namespace Go.Proofs.Ytnpffhgmakbdnaa
open Go.RowKit
/-- whose -/
def Cl.is (c : Cl) (a i : Int) : Prop := c.a = a ∧ c.i = i
theorem look_yes {w : World} {p mm : Nat} {g : Cf} {C : List Cl} (h : PC w p g mm C) {c : Cl} (hc : c ∈ C) {a i : Int} (e : c.is a i) :
    (Instr.lookup 65 (.map (some mm)) (whoV a i) true).run Try.prog w = .ok (.tuple #[ptr c.b, .bool true]) w ∧ (Instr.lookup 65 (.map (some mm)) (whoV a i) false).run Try.prog w = .ok (ptr c.b) w := by
  obtain ⟨rfl, rfl⟩ := e
  exact ⟨h.mp.look_some (okC h.st) (x := c.ky) (List.mem_map.2 ⟨c, hc, rfl⟩), h.mp.look_plain (okC h.st) (x := c.ky) (List.mem_map.2 ⟨c, hc, rfl⟩)⟩
theorem look_no {w : World} {p mm : Nat} {g : Cf} {C : List Cl} (h : PC w p g mm C) {a i : Int} (ha : -9223372036854775808 ≤ a ∧ a ≤ 9223372036854775807) (hi : -9223372036854775808 ≤ i ∧ i ≤ 9223372036854775807) (hn : ∀ c ∈ C, ¬ c.is a i) :
    (Instr.lookup 65 (.map (some mm)) (whoV a i) true).run Try.prog w = .ok (.tuple #[.pointer none, .bool false]) w := by
  obtain ⟨l, hl⟩ := key37 a i (wf_of ha) (wf_of hi)
  refine h.mp.look_none (okC h.st) hl fun k hk e => ?_
  obtain ⟨c, hc, rfl⟩ := List.mem_map.1 hk
  simp [kdC, Cl.ky] at e
  exact hn c hc e
structure InW (a i : Int) : Prop where
  a : -9223372036854775808 ≤ a ∧ a ≤ 9223372036854775807
  i : -9223372036854775808 ≤ i ∧ i ≤ 9223372036854775807
theorem water_yes {w : World} {p mm : Nat} {g : Cf} {C : List Cl} (h : PC w p g mm C) {c : Cl} (hc : c ∈ C) {a i : Int} (e : c.is a i) :
    Calls Try.prog 13 #[ptr p, whoV a i] w fun r w' => r = .returned (.int .i64 c.water) ∧ Below w.heap.size w w' := by
  obtain ⟨w0, hw0⟩ : ∃ w0, w.alloc (.cells #[.int .i64 a, .int .i64 i] 37) = w0 := ⟨_, rfl⟩
  have B0 : Below w.heap.size w w0 := by rw [← hw0]; exact below_box _ _
  have kb : w0.heap[w.heap.size]? = some (.cells #[.int .i64 a, .int .i64 i] 37) := by rw [← hw0]; exact (MapKept.heap_alloc w _).1
  have h0 := h.below B0
  have HB : Hid (Below w.heap.size w w0.drew) := B0.drew
  have c4 := h0.c4
  have hl := (look_yes h0.drew hc e).1
  have x0 := cl0 (h0.cl c hc).1
  obtain ⟨A0, hA⟩ : ∃ A0, w.heap.size = A0 := ⟨_, rfl⟩
  rw [hA] at kb HB ⊢
  have k0 : w0.cell? ⟨A0, 0, none⟩ = some (.int .i64 a) := by unfold World.cell?; rw [kb]; rfl
  have k1 : w0.cell? ⟨A0, 1, none⟩ = some (.int .i64 i) := by unfold World.cell?; rw [kb]; rfl
  clear h h0 B0 kb hc e
  generalize c.b = cb at *
  generalize c.water = cw at *
  go_enter Try.func13, Try.ntmps13
  go_wp2
  go_region
  all_goals (
    go_wp2
    go_ret
    exact ⟨rfl, HB.out⟩)
theorem water_no {w : World} {p mm : Nat} {g : Cf} {C : List Cl} (h : PC w p g mm C) {a i : Int} (hw : InW a i) (hn : ∀ c ∈ C, ¬ c.is a i) :
    Calls Try.prog 13 #[ptr p, whoV a i] w fun r w' => r = .returned (.int .i64 0) ∧ Below w.heap.size w w' := by
  obtain ⟨w0, hw0⟩ : ∃ w0, w.alloc (.cells #[.int .i64 a, .int .i64 i] 37) = w0 := ⟨_, rfl⟩
  have B0 : Below w.heap.size w w0 := by rw [← hw0]; exact below_box _ _
  have kb : w0.heap[w.heap.size]? = some (.cells #[.int .i64 a, .int .i64 i] 37) := by rw [← hw0]; exact (MapKept.heap_alloc w _).1
  have h0 := h.below B0
  have HB : Hid (Below w.heap.size w w0.drew) := B0.drew
  have c4 := h0.c4
  have hl := look_no h0.drew hw.a hw.i hn
  obtain ⟨A0, hA⟩ : ∃ A0, w.heap.size = A0 := ⟨_, rfl⟩
  rw [hA] at kb HB ⊢
  have k0 : w0.cell? ⟨A0, 0, none⟩ = some (.int .i64 a) := by unfold World.cell?; rw [kb]; rfl
  have k1 : w0.cell? ⟨A0, 1, none⟩ = some (.int .i64 i) := by unfold World.cell?; rw [kb]; rfl
  clear h h0 B0 kb hw hn
  go_enter Try.func13, Try.ntmps13
  go_wp2
  go_region
  all_goals (
    go_wp2
    go_ret
    exact ⟨rfl, HB.out⟩)
/-- an entry, or the empty one -/
def enAt (l : List En) (seq : Int) : Option En := l.find? fun e => decide (e.seq = seq)
theorem enAt_some {l : List En} {seq : Int} {e : En} (h : enAt l seq = some e) : e ∈ l ∧ e.seq = seq := ⟨List.mem_of_find?_eq_some h, by simpa using List.find?_some h⟩
theorem enAt_none {l : List En} {seq : Int} (h : enAt l seq = none) : ∀ e ∈ l, e.seq ≠ seq := fun e he => by simpa using List.find?_eq_none.1 h e he
theorem enAt_is {l : List En} {e : En} (hd : (l.map En.seq).Nodup) (he : e ∈ l) : enAt l e.seq = some e := by
  cases h : enAt l e.seq with
  | none => exact absurd rfl (enAt_none h e he)
  | some x => rw [nd_inj hd (enAt_some h).1 he (enAt_some h).2]
theorem look_en {w : World} {g : Cf} {c : Cl} (h : CL w g c) (hc : ClOk g c) {seq : Int} (hs : -9223372036854775808 ≤ seq ∧ seq ≤ 9223372036854775807) :
    (Instr.lookup 74 (.map (some c.m)) (.int .i64 seq) true).run Try.prog w = .ok (.tuple #[enV ((enAt c.ents seq).getD ⟨0, false, ⟨#[]⟩⟩), .bool (enAt c.ents seq).isSome]) w := by
  cases e : enAt c.ents seq with
  | some x =>
    obtain ⟨h1, rfl⟩ := enAt_some e
    exact h.mp.look_some (okE hc) h1
  | none => exact h.mp.look_none (okE hc) (key3 seq (wf_of hs)) fun x hx e2 => enAt_none e x hx (by simpa [kdE] using e2)
def busyE (o : Option En) : Bool := match o with
  | some e => !e.ans
  | none => false
theorem busy_any {w : World} {g : Cf} {c : Cl} (h : CL w g c) (hc : ClOk g c) {seq : Int} (hs : -9223372036854775808 ≤ seq ∧ seq ≤ 9223372036854775807) :
    Calls Try.prog 40 #[ptr c.b, .int .i64 seq] w fun r w' => r = .returned (.bool (busyE (enAt c.ents seq))) ∧ Below w.heap.size w w' := by
  have hl := look_en h hc hs
  have x2 := cl2 h.blk
  have HB : Hid (∀ a b, Below w.heap.size w (w.alloc (.cells #[.bool a, .string b] 79))) := fun a b => below_box _ _
  clear h
  generalize c.b = cb at *
  generalize c.m = cm at *
  cases e : enAt c.ents seq with
  | none =>
    rw [e] at hl
    obtain ⟨zb, hzb⟩ : ∃ zb : ByteArray, (⟨#[]⟩ : ByteArray) = zb := ⟨_, rfl⟩
    obtain ⟨zf, hzf⟩ : ∃ zf : Bool, false = zf := ⟨_, rfl⟩
    have hl' : (Instr.lookup 74 (.map (some cm)) (.int .i64 seq) true).run Try.prog w = .ok (.tuple #[.agg #[.bool zf, .string zb], .bool false]) w := by rw [← hzb, ← hzf]; exact hl
    clear hl e hc hzb hzf
    go_enter Try.func40, Try.ntmps40
    go_wp2
    go_ret
    exact ⟨rfl, HB.out _ _⟩
  | some x =>
    rw [e] at hl
    obtain ⟨q, ans, rep⟩ := x
    have hl' : (Instr.lookup 74 (.map (some cm)) (.int .i64 seq) true).run Try.prog w = .ok (.tuple #[.agg #[.bool ans, .string rep], .bool true]) w := hl
    clear hl e hc
    go_enter Try.func40, Try.ntmps40
    go_wp2
    go_ret
    exact ⟨rfl, HB.out _ _⟩
theorem PC.at {w : World} {p mm : Nat} {g : Cf} {C : List Cl} (h : PC w p g mm C) {c : Cl} (hc : c ∈ C) : CL w g c := ⟨(h.cl c hc).1, (h.cl c hc).2⟩
theorem Busy_yes {w : World} {p mm : Nat} {g : Cf} {C : List Cl} (h : PC w p g mm C) {c : Cl} (hc : c ∈ C) {a i : Int} (e : c.is a i) {seq : Int} (hs : -9223372036854775808 ≤ seq ∧ seq ≤ 9223372036854775807) :
    Calls Try.prog 23 #[ptr p, whoV a i, .int .i64 seq] w fun r w' => r = .returned (.bool (busyE (enAt c.ents seq))) ∧ Below w.heap.size w w' := by
  obtain ⟨w0, hw0⟩ : ∃ w0, w.alloc (.cells #[.int .i64 a, .int .i64 i] 37) = w0 := ⟨_, rfl⟩
  have B0 : Below w.heap.size w w0 := by rw [← hw0]; exact below_box _ _
  have kb : w0.heap[w.heap.size]? = some (.cells #[.int .i64 a, .int .i64 i] 37) := by rw [← hw0]; exact (MapKept.heap_alloc w _).1
  have h0 := h.below B0
  have HB : Hid (Below w.heap.size w w0.drew) := B0.drew
  have c4 := h0.c4
  have hl := (look_yes h0.drew hc e).1
  have HU := hid (busy_any (h0.drew.at hc) (h.st.cl c hc) hs)
  obtain ⟨A0, hA⟩ : ∃ A0, w.heap.size = A0 := ⟨_, rfl⟩
  rw [hA] at kb HB ⊢
  have k0 : w0.cell? ⟨A0, 0, none⟩ = some (.int .i64 a) := by unfold World.cell?; rw [kb]; rfl
  have k1 : w0.cell? ⟨A0, 1, none⟩ = some (.int .i64 i) := by unfold World.cell?; rw [kb]; rfl
  clear h h0 B0 kb hc e
  generalize c.b = cb at *
  generalize busyE (enAt c.ents seq) = q at *
  go_enter Try.func23, Try.ntmps23
  go_wp2
  go_region
  all_goals (
    go_wp2_with fail
    refine HU.out.mono ?_
    rintro _ w2 ⟨rfl, h2⟩
    have HC : Hid (Below A0 w w2) := HB.out.trans (h2.mono (hA ▸ HB.out.size))
    clear h2
    go_wp2
    go_ret
    exact ⟨rfl, HC.out⟩)
theorem Busy_no {w : World} {p mm : Nat} {g : Cf} {C : List Cl} (h : PC w p g mm C) {a i : Int} (hw : InW a i) (hn : ∀ c ∈ C, ¬ c.is a i) (seq : Int) :
    Calls Try.prog 23 #[ptr p, whoV a i, .int .i64 seq] w fun r w' => r = .returned (.bool false) ∧ Below w.heap.size w w' := by
  obtain ⟨w0, hw0⟩ : ∃ w0, w.alloc (.cells #[.int .i64 a, .int .i64 i] 37) = w0 := ⟨_, rfl⟩
  have B0 : Below w.heap.size w w0 := by rw [← hw0]; exact below_box _ _
  have kb : w0.heap[w.heap.size]? = some (.cells #[.int .i64 a, .int .i64 i] 37) := by rw [← hw0]; exact (MapKept.heap_alloc w _).1
  have h0 := h.below B0
  have HB : Hid (Below w.heap.size w w0.drew) := B0.drew
  have c4 := h0.c4
  have hl := look_no h0.drew hw.a hw.i hn
  obtain ⟨A0, hA⟩ : ∃ A0, w.heap.size = A0 := ⟨_, rfl⟩
  rw [hA] at kb HB ⊢
  have k0 : w0.cell? ⟨A0, 0, none⟩ = some (.int .i64 a) := by unfold World.cell?; rw [kb]; rfl
  have k1 : w0.cell? ⟨A0, 1, none⟩ = some (.int .i64 i) := by unfold World.cell?; rw [kb]; rfl
  clear h h0 B0 kb hw hn
  go_enter Try.func23, Try.ntmps23
  go_wp2
  go_region
  all_goals (
    go_wp2
    go_ret
    exact ⟨rfl, HB.out⟩)
end Go.Proofs.Ytnpffhgmakbdnaa
