/- askKnown where there is no entry. -/
import Derived.Test.YtnpffhgmakbdnaaRoMi
namespace Go.Proofs.Ytnpffhgmakbdnaa
open Go.RowKit
section
variable {w w' : World} {p mm : Nat} {g : Cf} {A B C : List Cl} {c c' : Cl}
set_option maxRecDepth 4000 in
theorem known_many (h : PC w p g mm C) (hc : c ∈ C) {seq : Int} (hs : 1 ≤ seq ∧ seq ≤ 4294967295) (hw : ¬ seq < c.water) (hn : enAt c.ents seq = none) (hf : g.en ≤ c.ents.length) :
    Calls Try.prog 33 #[ptr p, ptr c.b, .int .i64 seq] w fun e w' => e = .returned (.tuple #[.int .i64 5, .string ⟨#[]⟩]) ∧ Below w.heap.size w w' := by
  have x0 := cl0 (h.cl c hc).1
  have x2 := cl2 (h.cl c hc).1
  have hok := h.st.cl c hc
  have d : decide (seq < c.water) = false := by simpa using hw
  have hl := look_en (h.at hc) hok (seq := seq) (by omega)
  rw [hn] at hl
  obtain ⟨zb, hzb⟩ : ∃ zb : ByteArray, (⟨#[]⟩ : ByteArray) = zb := ⟨_, rfl⟩
  obtain ⟨zf, hzf⟩ : ∃ zf : Bool, false = zf := ⟨_, rfl⟩
  have hl' : (Instr.lookup 74 (.map (some c.m)) (.int .i64 seq) true).run Try.prog w = .ok (.tuple #[.agg #[.bool zf, .string zb], .bool false]) w := by rw [← hzb, ← hzf]; exact hl
  obtain ⟨w1, hw1⟩ : ∃ w1, w.alloc (.cells #[.bool zf, .string zb] 79) = w1 := ⟨_, rfl⟩
  have B1 : Below w.heap.size w w1 := by rw [← hw1]; exact below_box _ _
  have h1 := h.below B1
  have y2 := cl2 (h1.cl c hc).1
  have z1 := h1.c1
  have hlen : ∀ i ty, (Builtin.len_ #[74] ty #[.map (some c.m)]).run Try.prog (w1.drewN i) = .ok (.int .i64 c.ents.length) (w1.drewN i) := fun i => ((h1.drewN i).cl c hc).2.len
  have hgd : decide ((g.en : Int) ≤ (c.ents.length : Int)) = true := by simp; omega
  have hgn : decide (g.en ≤ c.ents.length) = true := by simpa using hf
  have HB : Hid (∀ i, Below w.heap.size w (w1.drewN i)) := fun i => ⟨B1.os, B1.tape, B1.output, B1.size, B1.block⟩
  clear h h1 hc hok hn hl B1 hzb hzf hf
  generalize c.b = cb at *
  generalize c.m = cm at *
  generalize c.water = cw at *
  generalize c.ents.length = n at *
  go_enter Try.func33, Try.ntmps33
  go_wp2
  go_quiet (fail)
  all_goals (
    go_wp2
    go_ret2
    exact ⟨rfl, HB.out _⟩)
set_option maxRecDepth 4000 in
theorem known_room (h : PC w p g mm C) (hc : c ∈ C) {seq : Int} (hs : 1 ≤ seq ∧ seq ≤ 4294967295) (hw : ¬ seq < c.water) (hn : enAt c.ents seq = none) (hf : c.ents.length < g.en) (hr : ¬ tot g.rs C + g.rs ≤ g.by_) :
    Calls Try.prog 33 #[ptr p, ptr c.b, .int .i64 seq] w fun e w' => e = .returned (.tuple #[.int .i64 5, .string ⟨#[]⟩]) ∧ Below w.heap.size w w' := by
  have x0 := cl0 (h.cl c hc).1
  have x2 := cl2 (h.cl c hc).1
  have hok := h.st.cl c hc
  have d : decide (seq < c.water) = false := by simpa using hw
  have hl := look_en (h.at hc) hok (seq := seq) (by omega)
  rw [hn] at hl
  obtain ⟨zb, hzb⟩ : ∃ zb : ByteArray, (⟨#[]⟩ : ByteArray) = zb := ⟨_, rfl⟩
  obtain ⟨zf, hzf⟩ : ∃ zf : Bool, false = zf := ⟨_, rfl⟩
  have hl' : (Instr.lookup 74 (.map (some c.m)) (.int .i64 seq) true).run Try.prog w = .ok (.tuple #[.agg #[.bool zf, .string zb], .bool false]) w := by rw [← hzb, ← hzf]; exact hl
  obtain ⟨w1, hw1⟩ : ∃ w1, w.alloc (.cells #[.bool zf, .string zb] 79) = w1 := ⟨_, rfl⟩
  have B1 : Below w.heap.size w w1 := by rw [← hw1]; exact below_box _ _
  have h1 := h.below B1
  have y2 := cl2 (h1.cl c hc).1
  have z1 := h1.c1
  have hlen : ∀ i ty, (Builtin.len_ #[74] ty #[.map (some c.m)]).run Try.prog (w1.drewN i) = .ok (.int .i64 c.ents.length) (w1.drewN i) := fun i => ((h1.drewN i).cl c hc).2.len
  have hgd : decide ((g.en : Int) ≤ (c.ents.length : Int)) = false := by simp; omega
  have hgn : decide (g.en ≤ c.ents.length) = false := by simpa using hf
  have HR : Hid (∀ i, Calls Try.prog 43 #[ptr p] (w1.drewN i) fun e w' => e = .returned (.bool false) ∧ Below w1.heap.size (w1.drewN i) w') := fun i => by
    have h9 := hasRoom_any (h1.drewN i)
    rw [show decide (tot g.rs C + g.rs ≤ g.by_) = false by simpa using hr] at h9
    exact h9
  have HB := hid B1
  have HP := hid h1
  have HCC := hid hc
  have s1 : w1.cell? ⟨c.b, 2, none⟩ = some (.map (some c.m)) ∧ w1.cell? ⟨p, 1, none⟩ = some (.int .i64 g.en) ∧ ∀ ty, (Builtin.len_ #[74] ty #[.map (some c.m)]).run Try.prog w1 = .ok (.int .i64 c.ents.length) w1 := ⟨y2, z1, hlen 0⟩
  have s2 : ∀ i, (w1.drewN i).cell? ⟨c.b, 2, none⟩ = some (.map (some c.m)) ∧ (w1.drewN i).cell? ⟨p, 1, none⟩ = some (.int .i64 g.en) ∧ ∀ ty, (Builtin.len_ #[74] ty #[.map (some c.m)]).run Try.prog (w1.drewN i) = .ok (.int .i64 c.ents.length) (w1.drewN i) := fun i => ⟨y2, z1, hlen i⟩
  have S7 : Hid (∀ i w5, Below w1.heap.size (w1.drewN i) w5 → (w5.cell? ⟨c.b, 2, none⟩ = some (.map (some c.m)) ∧ w5.cell? ⟨p, 1, none⟩ = some (.int .i64 g.en) ∧ ∀ ty, (Builtin.len_ #[74] ty #[.map (some c.m)]).run Try.prog w5 = .ok (.int .i64 c.ents.length) w5) ∧ Below w.heap.size w w5) := fun i w5 hb => by
    have h5 := (h1.drewN i).below hb
    exact ⟨⟨cl2 (h5.cl c hc).1, h5.c1, (h5.cl c hc).2.len⟩, B1.trans ((show Below w1.heap.size w1 w5 from ⟨hb.os, hb.tape, hb.output, hb.size, hb.block⟩).mono B1.size)⟩
  clear hlen h h1 hc hok hn hl B1 hzb hzf hf HP HCC HB
  generalize c.b = cb at *
  generalize c.m = cm at *
  generalize c.water = cw at *
  generalize c.ents.length = n at *
  go_enter Try.func33, Try.ntmps33
  go_wp2_with fail
  go_region_held3 (fun w' => w'.cell? ⟨cb, 2, none⟩ = some (.map (some cm)) ∧ w'.cell? ⟨p, 1, none⟩ = some (.int .i64 g.en) ∧ ∀ ty, (Builtin.len_ #[74] ty #[.map (some cm)]).run Try.prog w' = .ok (.int .i64 n) w') (first | with_reducible exact s1 | with_reducible exact s2 _ | with_reducible exact s7 | exact s2 1 | exact s1) (first
    | (go_at_call 43
       refine (HR.out _).mono ?_
       rintro e w5 ⟨rfl, hB5⟩
       obtain ⟨s7, hW⟩ := S7.out _ w5 hB5
       have HW := hid hW
       clear hB5 hW))
  all_goals (
    go_wp2
    go_ret2
    exact ⟨rfl, HW.out⟩)
theorem tot_new {g : Cf} {A B : List Cl} {c : Cl} {seq : Int} (hr : tot g.rs (A ++ c :: B) + g.rs ≤ g.by_) : tot g.rs (A ++ { c with ents := c.ents ++ [⟨seq, false, ⟨#[]⟩⟩] } :: B) ≤ g.by_ := by
  rw [tot_mid] at hr ⊢
  simp only [byt_app]
  have : byt g.rs [⟨seq, false, ⟨#[]⟩⟩] = g.rs := by simp [byt, sz]
  omega
theorem new_ok {g : Cf} {c : Cl} {seq : Int} (h : ClOk g c) (hs : 1 ≤ seq ∧ seq ≤ 4294967295) (hw : ¬ seq < c.water) (hn : enAt c.ents seq = none) (hf : c.ents.length < g.en) : ClOk g { c with ents := c.ents ++ [⟨seq, false, ⟨#[]⟩⟩] } := by
  refine ⟨h.a, h.i, h.w, fun e he => ?_, ?_, by simp; omega⟩
  · rcases List.mem_append.1 he with h1 | h1
    · exact h.en e h1
    · simp at h1
      rw [h1]
      exact ⟨by simpa using hw, hs.2, Nat.zero_le g.rs, fun _ => rfl⟩
  · simp only [List.map_append, List.map_cons, List.map_nil]
    refine List.nodup_append.2 ⟨h.nd, by simp, fun a ha b hb => ?_⟩
    obtain ⟨e, he, rfl⟩ := List.mem_map.1 ha
    simp at hb
    rw [hb]
    exact enAt_none hn e he
set_option maxRecDepth 4000 in
theorem known_new (h : PC w p g mm (A ++ c :: B)) {seq : Int} (hs : 1 ≤ seq ∧ seq ≤ 4294967295) (hw : ¬ seq < c.water) (hn : enAt c.ents seq = none) (hf : c.ents.length < g.en) (hr : tot g.rs (A ++ c :: B) + g.rs ≤ g.by_) :
    Calls Try.prog 33 #[ptr p, ptr c.b, .int .i64 seq] w fun e w' => e = .returned (.tuple #[.int .i64 1, .string ⟨#[]⟩]) ∧ PC w' p g mm (A ++ { c with ents := c.ents ++ [⟨seq, false, ⟨#[]⟩⟩] } :: B) ∧ Chg (foot p mm (A ++ c :: B)) (foot p mm (A ++ { c with ents := c.ents ++ [⟨seq, false, ⟨#[]⟩⟩] } :: B)) w w' := by
  have hc : c ∈ A ++ c :: B := by simp
  have x0 := cl0 (h.cl c hc).1
  have x2 := cl2 (h.cl c hc).1
  have hok := h.st.cl c hc
  have d : decide (seq < c.water) = false := by simpa using hw
  have hl := look_en (h.at hc) hok (seq := seq) (by omega)
  rw [hn] at hl
  obtain ⟨zb, hzb⟩ : ∃ zb : ByteArray, (⟨#[]⟩ : ByteArray) = zb := ⟨_, rfl⟩
  obtain ⟨zf, hzf⟩ : ∃ zf : Bool, false = zf := ⟨_, rfl⟩
  have hl' : (Instr.lookup 74 (.map (some c.m)) (.int .i64 seq) true).run Try.prog w = .ok (.tuple #[.agg #[.bool zf, .string zb], .bool false]) w := by rw [← hzb, ← hzf]; exact hl
  obtain ⟨w1, hw1⟩ : ∃ w1, w.alloc (.cells #[.bool zf, .string zb] 79) = w1 := ⟨_, rfl⟩
  have B1 : Below w.heap.size w w1 := by rw [← hw1]; exact below_box _ _
  have h1 := h.below B1
  have y2 := cl2 (h1.cl c hc).1
  have z1 := h1.c1
  have hlen : ∀ i ty, (Builtin.len_ #[74] ty #[.map (some c.m)]).run Try.prog (w1.drewN i) = .ok (.int .i64 c.ents.length) (w1.drewN i) := fun i => ((h1.drewN i).cl c hc).2.len
  have hgd : decide ((g.en : Int) ≤ (c.ents.length : Int)) = false := by simp; omega
  have hgn : decide (g.en ≤ c.ents.length) = false := by simpa using hf
  have HR : Hid (∀ i, Calls Try.prog 43 #[ptr p] (w1.drewN i) fun e w' => e = .returned (.bool true) ∧ Below w1.heap.size (w1.drewN i) w') := fun i => by
    have h9 := hasRoom_any (h1.drewN i)
    rw [show decide (tot g.rs (A ++ c :: B) + g.rs ≤ g.by_) = true by simpa using hr] at h9
    exact h9
  have s1 : w1.cell? ⟨c.b, 2, none⟩ = some (.map (some c.m)) ∧ w1.cell? ⟨p, 1, none⟩ = some (.int .i64 g.en) ∧ ∀ ty, (Builtin.len_ #[74] ty #[.map (some c.m)]).run Try.prog w1 = .ok (.int .i64 c.ents.length) w1 := ⟨y2, z1, hlen 0⟩
  have s2 : ∀ i, (w1.drewN i).cell? ⟨c.b, 2, none⟩ = some (.map (some c.m)) ∧ (w1.drewN i).cell? ⟨p, 1, none⟩ = some (.int .i64 g.en) ∧ ∀ ty, (Builtin.len_ #[74] ty #[.map (some c.m)]).run Try.prog (w1.drewN i) = .ok (.int .i64 c.ents.length) (w1.drewN i) := fun i => ⟨y2, z1, hlen i⟩
  have S7 : Hid (∀ i w5, Below w1.heap.size (w1.drewN i) w5 → (w5.cell? ⟨c.b, 2, none⟩ = some (.map (some c.m)) ∧ w5.cell? ⟨p, 1, none⟩ = some (.int .i64 g.en) ∧ ∀ ty, (Builtin.len_ #[74] ty #[.map (some c.m)]).run Try.prog w5 = .ok (.int .i64 c.ents.length) w5) ∧
      ∀ j, Calls Try.prog 44 #[ptr p, ptr c.b, .int .i64 seq] (w5.drewN j) fun e w' => e = .returned (.tuple #[]) ∧ PC w' p g mm (A ++ { c with ents := c.ents ++ [⟨seq, false, ⟨#[]⟩⟩] } :: B) ∧ Chg (foot p mm (A ++ c :: B)) (foot p mm (A ++ { c with ents := c.ents ++ [⟨seq, false, ⟨#[]⟩⟩] } :: B)) w w') := fun i w5 hb => by
    have h5 := (h1.drewN i).below hb
    have be : Below w.heap.size w w5 := B1.trans ((show Below w1.heap.size w1 w5 from ⟨hb.os, hb.tape, hb.output, hb.size, hb.block⟩).mono B1.size)
    refine ⟨⟨cl2 (h5.cl c hc).1, h5.c1, (h5.cl c hc).2.len⟩, fun j => ?_⟩
    have h6 := h5.drewN j
    refine (begin_any h6.me h6.ok (h6.at hc) hok seq hs (enAt_none hn)).mono ?_
    rintro e w' ⟨rfl, q1, q2⟩
    obtain ⟨r1, r2⟩ := h6.upd (c' := { c with ents := c.ents ++ [⟨seq, false, ⟨#[]⟩⟩] }) ⟨rfl, rfl, rfl, rfl⟩ q1 q2 (new_ok hok hs hw hn hf) (tot_new hr)
    refine ⟨rfl, r1, (Chg.of_below _ be).trans (Chg.trans (b := w5.drewN j) ⟨rfl, rfl, rfl, Nat.le_refl _, fun _ _ _ => rfl, fun _ h => .inl h⟩ r2)⟩
  clear hlen h h1 hok hn hl B1 hzb hzf hf hc hr
  generalize (A ++ { c with ents := c.ents ++ [⟨seq, false, ⟨#[]⟩⟩] } :: B) = C2 at *
  generalize (A ++ c :: B) = C1 at *
  generalize c.b = cb at *
  generalize c.m = cm at *
  generalize c.water = cw at *
  generalize c.ents.length = n at *
  go_enter Try.func33, Try.ntmps33
  go_wp2_with fail
  go_region_held3 (fun w' => w'.cell? ⟨cb, 2, none⟩ = some (.map (some cm)) ∧ w'.cell? ⟨p, 1, none⟩ = some (.int .i64 g.en) ∧ ∀ ty, (Builtin.len_ #[74] ty #[.map (some cm)]).run Try.prog w' = .ok (.int .i64 n) w') (first | with_reducible exact s1 | with_reducible exact s2 _ | with_reducible exact s7 | exact s2 1 | exact s1) (first
    | (go_at_call 43
       refine (HR.out _).mono ?_
       rintro e w5 ⟨rfl, hB5⟩
       obtain ⟨s7, hW⟩ := S7.out _ w5 hB5
       have HW := hid hW
       clear hB5 hW))
  all_goals (
    go_wp2_with fail
    refine (HW.out 0).mono ?_
    rintro _ w6 ⟨rfl, r1, r2⟩
    have HE := hid (And.intro r1 r2)
    clear r1 r2
    go_wp2
    go_ret2
    exact ⟨rfl, HE.out⟩)
end
end Go.Proofs.Ytnpffhgmakbdnaa
