/- askOther of a new client; Ask. -/
import Derived.Test.YtnpffhgmakbdnaaRoMk
namespace Go.Proofs.Ytnpffhgmakbdnaa
open Go.RowKit
abbrev newE (seq : Int) : En := ⟨seq, false, ⟨#[]⟩⟩
section
variable {w w' : World} {p mm : Nat} {g : Cf} {A B C : List Cl} {c c' : Cl}
theorem fresh_ok {g : Cf} (hg : CfOk g) {a i water seq : Int} {b m : Nat} (ha : 1 ≤ a ∧ a ≤ 16777215) (hi : 1 ≤ i ∧ i ≤ 4611686018427387904) (hw : 1 ≤ water ∧ water ≤ 4294967295) (hs : 1 ≤ seq ∧ seq ≤ 4294967295) (h : ¬ seq < water) : ClOk g ⟨a, i, water, [newE seq], b, m⟩ := by
  refine ⟨ha, hi, hw, fun e he => ?_, by simp, by simp; exact hg.e.1⟩
  simp at he
  rw [he]
  exact ⟨by simpa using h, hs.2, Nat.zero_le g.rs, fun _ => rfl⟩
set_option maxRecDepth 4000 in
theorem other_new (h : PC w p g mm C) (a i seq water : Int) (ha : 1 ≤ a ∧ a ≤ 16777215) (hi : 1 ≤ i ∧ i ≤ 4611686018427387904) (hw : 1 ≤ water ∧ water ≤ 4294967295) (hsq : 1 ≤ seq ∧ seq ≤ 4294967295) (hn : ∀ c ∈ C, ¬ c.is a i) (hs : ¬ seq < water) (hf : C.length < g.cl) (hr : tot g.rs C + g.rs ≤ g.by_) :
    Calls Try.prog 34 #[ptr p, whoV a i, .int .i64 seq, .int .i64 water] w fun e w' => e = .returned (.int .i64 1) ∧ ∃ b m, PC w' p g mm (C ++ [⟨a, i, water, [newE seq], b, m⟩]) ∧ Chg (foot p mm C) (foot p mm (C ++ [⟨a, i, water, [newE seq], b, m⟩])) w w' := by
  have d : decide (seq < water) = false := by simpa using hs
  obtain ⟨w1, hw1⟩ : ∃ w1, w.alloc (.cells #[.int .i64 a, .int .i64 i] 37) = w1 := ⟨_, rfl⟩
  have B1 : Below w.heap.size w w1 := by rw [← hw1]; exact below_box _ _
  have kb : w1.heap[w.heap.size]? = some (.cells #[.int .i64 a, .int .i64 i] 37) := by rw [← hw1]; exact (MapKept.heap_alloc w _).1
  have h1 := h.below B1
  have z0 := h1.c0
  have z4 := h1.c4
  have hlen : ∀ i ty, (Builtin.len_ #[65] ty #[.map (some mm)]).run Try.prog (w1.drewN i) = .ok (.int .i64 (C.map Cl.ky).length) (w1.drewN i) := fun i => (h1.drewN i).mp.len
  rw [List.length_map] at hlen
  have hgd : decide ((g.cl : Int) ≤ (C.length : Int)) = false := by simp; omega
  have hgn : decide (g.cl ≤ C.length) = false := by simp; omega
  have HR : Hid (∀ i, Calls Try.prog 43 #[ptr p] (w1.drewN i) fun e w' => e = .returned (.bool true) ∧ Below w1.heap.size (w1.drewN i) w') := fun i => by
    have h9 := hasRoom_any (h1.drewN i)
    rw [show decide (tot g.rs C + g.rs ≤ g.by_) = true by simpa using hr] at h9
    exact h9
  have s1 : w1.cell? ⟨p, 4, none⟩ = some (.map (some mm)) ∧ w1.cell? ⟨p, 0, none⟩ = some (.int .i64 g.cl) ∧ ∀ ty, (Builtin.len_ #[65] ty #[.map (some mm)]).run Try.prog w1 = .ok (.int .i64 C.length) w1 := ⟨z4, z0, hlen 0⟩
  have s2 : ∀ i, (w1.drewN i).cell? ⟨p, 4, none⟩ = some (.map (some mm)) ∧ (w1.drewN i).cell? ⟨p, 0, none⟩ = some (.int .i64 g.cl) ∧ ∀ ty, (Builtin.len_ #[65] ty #[.map (some mm)]).run Try.prog (w1.drewN i) = .ok (.int .i64 C.length) (w1.drewN i) := fun i => ⟨z4, z0, hlen i⟩
  obtain ⟨A0, hA⟩ : ∃ A0, w.heap.size = A0 := ⟨_, rfl⟩
  have S7 : Hid (∀ jj w5, Below w1.heap.size (w1.drewN jj) w5 → (w5.cell? ⟨p, 4, none⟩ = some (.map (some mm)) ∧ w5.cell? ⟨p, 0, none⟩ = some (.int .i64 g.cl) ∧ ∀ ty, (Builtin.len_ #[65] ty #[.map (some mm)]).run Try.prog w5 = .ok (.int .i64 C.length) w5) ∧ PC w5 p g mm C ∧ Below w.heap.size w w5 ∧ w5.heap[A0]? = some (.cells #[.int .i64 a, .int .i64 i] 37) ∧ A0 < w5.heap.size) := fun jj w5 hb => by
    have h5 := (h1.drewN jj).below hb
    have hl5 := h5.mp.len
    rw [List.length_map] at hl5
    have hlt : w.heap.size < w1.heap.size := (Array.getElem?_eq_some_iff.1 kb).1
    have k5 : w5.heap[A0]? = some (.cells #[.int .i64 a, .int .i64 i] 37) := by rw [← hA]; exact (hb.block _ hlt).trans kb
    exact ⟨⟨h5.c4, h5.c0, hl5⟩, h5, B1.trans ((show Below w1.heap.size w1 w5 from ⟨hb.os, hb.tape, hb.output, hb.size, hb.block⟩).mono B1.size), k5, (Array.getElem?_eq_some_iff.1 k5).1⟩
  have HALL := hid (And.intro ha (And.intro hi (And.intro hw (And.intro hsq (And.intro hn (And.intro hs (And.intro hf hr)))))))
  have HG := hid h.ok
  have hmk : ∀ w : World, (Instr.makeMap 74 none).run Try.prog w = .ok (.map (some w.heap.size)) (w.alloc (.map #[] 0)) := fun _ => rfl
  clear h h1 B1 hf hs hlen hr ha hi hw hsq hn kb
  generalize hnC : C.length = n at *
  have HNC := hid hnC
  clear hnC
  go_enter Try.func34, Try.ntmps34
  go_wp2_with fail
  go_region_held3 (fun w' => w'.cell? ⟨p, 4, none⟩ = some (.map (some mm)) ∧ w'.cell? ⟨p, 0, none⟩ = some (.int .i64 g.cl) ∧ ∀ ty, (Builtin.len_ #[65] ty #[.map (some mm)]).run Try.prog w' = .ok (.int .i64 n) w') (first | with_reducible exact s1 | with_reducible exact s2 _ | with_reducible exact s7 | exact s2 1 | exact s1) (first
    | (go_at_call 43
       refine (HR.out _).mono ?_
       rintro e w5 ⟨rfl, hB5⟩
       obtain ⟨s7, hP5, hW5, hk5, hl5⟩ := S7.out _ w5 hB5
       have HP5 := hid hP5
       have HW5 := hid hW5
       have HK5 := hid (And.intro hk5 hl5)
       clear hB5 hP5 hW5 hk5 hl5))
  all_goals (
    obtain ⟨w6, hw6⟩ : ∃ w6, w5.alloc (.map #[] 0) = w6 := ⟨_, rfl⟩
    obtain ⟨m6, hm6⟩ : ∃ m6, w5.heap.size = m6 := ⟨_, rfl⟩
    obtain ⟨w7, hw7⟩ : ∃ w7, w6.alloc (.cells #[.int .i64 water, .int .i64 0, .map (some m6)] 76) = w7 := ⟨_, rfl⟩
    obtain ⟨b7, hb7⟩ : ∃ b7, w6.heap.size = b7 := ⟨_, rfl⟩
    have hb67 : b7 = m6 + 1 := by rw [← hb7, ← hw6, ← hm6]; simp
    have B7 : Below w5.heap.size w5 w7 := by
      rw [← hw7, ← hw6]
      exact (below_box w5 _).alloc (by simp) _
    have HB7 := hid B7
    have HC7 : Hid (CL w7 g ⟨a, i, water, [], b7, m6⟩) := by
      have q := CL.fresh w5 g a i water
      rw [hw6, hm6, hw7] at q
      rw [hb67]
      exact q
    have HBG : Hid (Calls Try.prog 44 #[ptr p, ptr b7, .int .i64 seq] w7 fun e w' => e = .returned (.tuple #[]) ∧ CL w' g ⟨a, i, water, [newE seq], b7, m6⟩ ∧ Chg [b7, m6] [b7, m6] w7 w') := by
      obtain ⟨q1, q2, q3, q4, q5, q6, q7, q8⟩ := HALL.out
      exact begin_any (HP5.out.below B7).me HG.out HC7.out ⟨q1, q2, q3, fun e he => by simp at he, by simp, by simp⟩ seq q4 (fun e he => by simp at he)
    have HS : Hid (m6 = w5.heap.size ∧ b7 = m6 + 1) := ⟨hm6.symm, hb67⟩
    clear B7 hb67
    go_wp2_with fail
    refine HBG.out.mono ?_
    rintro _ w8 ⟨rfl, q1, q2⟩
    have hB8 : Below w5.heap.size w5 w8 := by
      refine ⟨q2.os.trans HB7.out.os, q2.tape.trans HB7.out.tape, q2.output.trans HB7.out.output, Nat.le_trans HB7.out.size q2.size, fun x hx => (q2.kept x (Nat.lt_of_lt_of_le hx HB7.out.size) ?_).trans (HB7.out.block x hx)⟩
      have := HS.out
      simp
      omega
    have hPC : ∃ w9, (Instr.mapUpdate 65 (.map (some mm)) (whoV a i) (ptr b7)).run Try.prog w8.drew = .ok () w9 ∧ PC w9 p g mm (C ++ [⟨a, i, water, [newE seq], b7, m6⟩]) ∧ Chg (foot p mm C) (foot p mm (C ++ [⟨a, i, water, [newE seq], b7, m6⟩])) w5 w9 := by
      obtain ⟨r1, r2, r3, r4, r5, r6, r7, r8⟩ := HALL.out
      refine HP5.out.add (w' := w8.drew) (c := ⟨a, i, water, [newE seq], b7, m6⟩) ⟨hB8.os, hB8.tape, hB8.output, hB8.size, hB8.block⟩ ⟨q1.blk, q1.mp.kept rfl⟩ ?_ ?_ (fresh_ok HG.out r1 r2 r3 r4 (Int.not_lt.2 r6)) r5 ?_ ?_
      · have := HS.out; simp only; omega
      · have := HS.out; simp only; omega
      · have := HNC.out; omega
      · rw [tot_app]
        simp [tot, byt, sz]
        exact r8
    obtain ⟨w9, hmu, hp9, hc9⟩ := hPC
    have HE : Hid (PC w9 p g mm (C ++ [⟨a, i, water, [newE seq], b7, m6⟩]) ∧ Chg (foot p mm C) (foot p mm (C ++ [⟨a, i, water, [newE seq], b7, m6⟩])) w w9) := ⟨hp9, (Chg.of_below _ HW5.out).trans hc9⟩
    have k8 : w8.heap[A0]? = some (.cells #[.int .i64 a, .int .i64 i] 37) := (hB8.block _ HK5.out.2).trans HK5.out.1
    have k80 : w8.cell? ⟨A0, 0, none⟩ = some (.int .i64 a) := by unfold World.cell?; rw [k8]; rfl
    have k81 : w8.cell? ⟨A0, 1, none⟩ = some (.int .i64 i) := by unfold World.cell?; rw [k8]; rfl
    have z84 := (HP5.out.below hB8).c4
    clear q1 q2 hB8 hp9 hc9 k8
    go_wp2
    go_region
    all_goals (
      go_wp2
      go_ret
      exact ⟨rfl, b7, m6, HE.out⟩))
end
/-- what a call is: the document's words -/
inductive AskR (g : Cf) (C : List Cl) (a i seq water : Int) : Int → ByteArray → List Cl → Prop
  | bad : ¬ (inB a 1 16777215 = true ∧ inB i 1 4611686018427387904 = true ∧ inB seq 1 4294967295 = true ∧ inB water 1 4294967295 = true) → AskR g C a i seq water 4 ⟨#[]⟩ C
  | old (A B : List Cl) (c : Cl) : C = A ++ c :: B → c.is a i → inB seq 1 4294967295 = true → inB water 1 4294967295 = true → seq < (raiseC c water).water → AskR g C a i seq water 4 ⟨#[]⟩ (A ++ raiseC c water :: B)
  | there (A B : List Cl) (c : Cl) (e : En) : C = A ++ c :: B → c.is a i → inB seq 1 4294967295 = true → inB water 1 4294967295 = true → e ∈ (raiseC c water).ents → e.seq = seq → AskR g C a i seq water (if e.ans then 3 else 2) e.rep (A ++ raiseC c water :: B)
  | full (A B : List Cl) (c : Cl) : C = A ++ c :: B → c.is a i → inB seq 1 4294967295 = true → inB water 1 4294967295 = true → ¬ seq < (raiseC c water).water → enAt (raiseC c water).ents seq = none → (g.en ≤ (raiseC c water).ents.length ∨ ¬ tot g.rs (A ++ raiseC c water :: B) + g.rs ≤ g.by_) → AskR g C a i seq water 5 ⟨#[]⟩ (A ++ raiseC c water :: B)
  | new (A B : List Cl) (c : Cl) : C = A ++ c :: B → c.is a i → inB seq 1 4294967295 = true → inB water 1 4294967295 = true → ¬ seq < (raiseC c water).water → enAt (raiseC c water).ents seq = none → (raiseC c water).ents.length < g.en → tot g.rs (A ++ raiseC c water :: B) + g.rs ≤ g.by_ → AskR g C a i seq water 1 ⟨#[]⟩ (A ++ { raiseC c water with ents := (raiseC c water).ents ++ [newE seq] } :: B)
  | oldU : (∀ c ∈ C, ¬ c.is a i) → inB a 1 16777215 = true → inB i 1 4611686018427387904 = true → inB seq 1 4294967295 = true → inB water 1 4294967295 = true → seq < water → AskR g C a i seq water 4 ⟨#[]⟩ C
  | fullU : (∀ c ∈ C, ¬ c.is a i) → inB a 1 16777215 = true → inB i 1 4611686018427387904 = true → inB seq 1 4294967295 = true → inB water 1 4294967295 = true → ¬ seq < water → (g.cl ≤ C.length ∨ ¬ tot g.rs C + g.rs ≤ g.by_) → AskR g C a i seq water 5 ⟨#[]⟩ C
  | newU (b m : Nat) : (∀ c ∈ C, ¬ c.is a i) → inB a 1 16777215 = true → inB i 1 4611686018427387904 = true → inB seq 1 4294967295 = true → inB water 1 4294967295 = true → ¬ seq < water → C.length < g.cl → tot g.rs C + g.rs ≤ g.by_ → AskR g C a i seq water 1 ⟨#[]⟩ (C ++ [⟨a, i, water, [newE seq], b, m⟩])
def AskPost (w : World) (p : Nat) (g : Cf) (mm : Nat) (C : List Cl) (a i seq water : Int) (e : Ending) (w' : World) : Prop :=
  ∃ v s C', e = .returned (.tuple #[.int .i64 v, .string s]) ∧ AskR g C a i seq water v s C' ∧ PC w' p g mm C' ∧ Chg (foot p mm C) (foot p mm C') w w'
theorem inB_is {n l h : Int} (e : inB n l h = true) : l ≤ n ∧ n ≤ h := by simpa [inB] using e
end Go.Proofs.Ytnpffhgmakbdnaa
