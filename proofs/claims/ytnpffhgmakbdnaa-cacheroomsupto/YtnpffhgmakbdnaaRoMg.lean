/- Bytes, Entries, Clients, hasRoom. -/
import Derived.Test.YtnpffhgmakbdnaaRoMf
namespace Go.Proofs.Ytnpffhgmakbdnaa
open Go.RowKit
def sumC (f : Cl → Nat) (C : List Cl) : Nat := (C.map f).sum
theorem sumC_le {f : Cl → Nat} {k : Nat} : ∀ {C : List Cl}, (∀ c ∈ C, f c ≤ k) → sumC f C ≤ C.length * k
  | [], _ => by simp [sumC]
  | c :: C, h => by
    have h1 := h c (by simp)
    have h2 := sumC_le (C := C) fun x hx => h x (by simp [hx])
    simp only [sumC, List.map_cons, List.sum_cons, List.length_cons] at h2 ⊢
    rw [Nat.succ_mul]
    omega
theorem sumC_cons (f : Cl → Nat) (x : Cl) (R : List Cl) : sumC f (x :: R) = f x + sumC f R := by simp [sumC]
theorem sumC_perm {f : Cl → Nat} {l l2 : List Cl} (h : l.Perm l2) : sumC f l = sumC f l2 := by
  unfold sumC
  induction h with
  | nil => rfl
  | cons x _ ih => simp only [List.map_cons, List.sum_cons, ih]
  | swap x y l => simp only [List.map_cons, List.sum_cons]; omega
  | trans _ _ i1 i2 => exact i1.trans i2
theorem perm_map_cons {β γ : Type} {f : β → γ} {R : List β} {k : γ} {l : List γ} (h : (R.map f).Perm (k :: l)) : ∃ x R', R.Perm (x :: R') ∧ f x = k ∧ l.Perm (R'.map f) := by
  obtain ⟨x, hx, e⟩ := List.mem_map.1 (h.mem_iff.2 (List.mem_cons_self ..))
  obtain ⟨A, B, rfl⟩ := ty_of_mem hx
  refine ⟨x, A ++ B, List.perm_middle, e, ?_⟩
  have h2 : ((A ++ x :: B).map f).Perm (k :: (A ++ B).map f) := by
    rw [← e]
    simp only [List.map_append, List.map_cons]
    exact List.perm_middle
  exact List.Perm.cons_inv (h.symm.trans h2)
theorem RG.rest {α : Type} {I : Kd α} {w : World} {m r : Nat} {L rest rest' : List α} {cur : Option α} (h : RG I w m r L rest cur) (hp : rest.Perm rest') : RG I w m r L rest' cur := by
  obtain ⟨a1, a2, a3, a4, a5, a6, a7, a8, a9, a10, a11, a12, a13, a14⟩ := h
  exact ⟨a1, a2, a3, a4, a5, a6, a7, a8, a9, a10, a11, a12, a13.trans (hp.map _), a14⟩
/-- while the clients are counted -/
structure RC (w : World) (mm r : Nat) (C : List Cl) (f : Cl → Nat) (n : Nat) (wr : World) (R : List Cl) : Prop where
  rg : RG kdC wr mm r (C.map Cl.ky) (R.map Cl.ky) none
  sub : ∀ c ∈ R, c ∈ C
  sum : n + sumC f R = sumC f C
  be : Below w.heap.size w wr

theorem bytes_any {w : World} {p mm : Nat} {g : Cf} {C : List Cl} (h : PC w p g mm C) :
    Calls Try.prog 16 #[ptr p] w fun e w' => e = .returned (.int .i64 (sumC (fun c => byt g.rs c.ents) C)) ∧ Below w.heap.size w w' := by
  have c4 := h.c4
  obtain ⟨w1, hr, hrg, hB⟩ := h.mp.range
  have hr' : (Instr.range 65 (.map (some mm))).run Try.prog w = .ok (ptr w.heap.size) w1 := hr
  have hmx : sumC (fun c => byt g.rs c.ents) C ≤ 10000000 := by
    refine Nat.le_trans (sumC_le (k := 70400) fun c hc => ?_) ?_
    · exact (h.st.cl c hc).byt_le h.ok
    · have h1 := h.st.len; have h2 := h.ok.c; exact Nat.le_trans (Nat.mul_le_mul (show C.length ≤ 64 by omega) (Nat.le_refl _)) (by omega)
  have HP := hid h
  have HR : Hid (RC w mm w.heap.size C (fun c => byt g.rs c.ents) 0 w1 C) := ⟨hrg, fun c h => h, by simp, hB⟩
  have HX := hid hmx
  obtain ⟨r0, hr0⟩ : ∃ r0, w.heap.size = r0 := ⟨_, rfl⟩
  have HS := hid hr0
  rw [hr0] at hr' HR ⊢
  generalize hT : sumC (fun c => byt g.rs c.ents) C = T at *
  have HT := hid hT
  clear h hr hrg hB hmx hr0 hT
  go_enter Try.func16, Try.ntmps16
  go_wp2
  go_loopw [3, 11] (fun v _ wr => ∃ (n : Nat) (R : List Cl), v = .int .i64 n ∧ RC w mm r0 C (fun c => byt g.rs c.ents) n wr R) (fun _ _ wr => leftN wr mm r0)
  case atStart => exact ⟨0, C, rfl, HR.out⟩
  case round =>
    obtain ⟨n, R, rfl, hrc⟩ := hrel
    have HC := hid hrc
    clear hrc
    rcases HC.out.rg.next with ⟨hnil, hn⟩ | ⟨k, rest', w3, hpm, hkL, hn, hrg3, ho⟩
    · obtain rfl : R = [] := by simpa using hnil
      have HE : Hid ((n : Int) = (T : Int) ∧ Below r0 w wr) := ⟨by have := HC.out.sum; rw [HT.out] at this; simp [sumC] at this; omega, by have := HC.out.be; rwa [HS.out] at this⟩
      clear HC HR hnil
      go_wp2
      go_ret
      exact ⟨by rw [HE.out.1]; rfl, HE.out.2⟩
    · obtain ⟨x, R', hR, hxk, hrest⟩ := perm_map_cons hpm
      have hxR : x ∈ R := hR.mem_iff.2 (by simp)
      have hxC := HC.out.sub x hxR
      obtain ⟨kb1, kb2⟩ := HP.out.cl x hxC
      have sz3 := ho.size
      have hlx : x.b < w.heap.size := (Array.getElem?_eq_some_iff.1 kb1).1
      have hbb : Below w.heap.size w w3 := by
        have h1 := HC.out.be
        exact ⟨ho.os.trans h1.os, ho.tape.trans h1.tape, ho.output.trans h1.output, by have := h1.size; omega, fun y hy => (ho.kept y (by have := HS.out; omega)).trans (h1.block y hy)⟩
      have hb3 : w3.heap[x.b]? = some (clO g x) := (hbb.block _ hlx).trans kb1
      have y0 := cl1 hb3
      have hen := hrg3.entry
      subst hxk
      have hn' : ∀ ty, (Instr.next (ptr r0) false ty).run Try.prog wr = .ok (.tuple #[.bool true, whoV x.a x.i, ptr x.b]) w3 := hn
      have hen' : (Instr.entry (ptr r0)).run Try.prog w3 = .ok (.tuple #[whoV x.a x.i, ptr x.b]) w3 := hen
      have hsum : n + byt g.rs x.ents + sumC (fun c => byt g.rs c.ents) R' = T := by
        have := HC.out.sum
        rw [HT.out, sumC_perm hR, sumC_cons] at this
        omega
      have HE : Hid (RC w mm r0 C (fun c => byt g.rs c.ents) (n + byt g.rs x.ents) w3 R') := by
        refine ⟨?_, fun c hc => HC.out.sub c (hR.mem_iff.2 (by simp [hc])), by rw [HT.out]; exact hsum, hbb⟩
        have h9 := hrg3.rest hrest
        obtain ⟨a1, a2, a3, a4, a5, a6, a7, a8, a9, a10, a11, a12, a13, _⟩ := h9
        exact ⟨a1, a2, a3, a4, a5, a6, a7, a8, a9, a10, a11, a12, a13, fun x hx => by cases hx⟩
      have HM : Hid (leftN w3 mm r0 < leftN wr mm r0) := by
        have h5 : R.length = R'.length + 1 := hR.length_eq
        show leftN w3 mm r0 < leftN wr mm r0
        rw [HE.out.rg.left, HC.out.rg.left, List.length_map, List.length_map, h5]
        exact Nat.lt_succ_self _
      have hadd : wrap64 ((n : Int) + ((byt g.rs x.ents : Nat) : Int)) = ((n + byt g.rs x.ents : Nat) : Int) := by
        have := HX.out
        unfold wrap64; omega

      generalize byt g.rs x.ents = phx at *
      clear hn hen hpm hkL hrg3 ho hR hrest hxR hxC kb1 kb2 sz3 hlx hbb hb3 hsum HC HR
      go_wp2
      go_roundw
      case rel => exact ⟨_, _, by rw [hadd], HE.out⟩
      case measure => exact HM.out

theorem entries_any {w : World} {p mm : Nat} {g : Cf} {C : List Cl} (h : PC w p g mm C) :
    Calls Try.prog 17 #[ptr p] w fun e w' => e = .returned (.int .i64 (sumC (fun c => c.ents.length) C)) ∧ Below w.heap.size w w' := by
  have c4 := h.c4
  obtain ⟨w1, hr, hrg, hB⟩ := h.mp.range
  have hr' : (Instr.range 65 (.map (some mm))).run Try.prog w = .ok (ptr w.heap.size) w1 := hr
  have hmx : sumC (fun c => c.ents.length) C ≤ 10000000 := by
    refine Nat.le_trans (sumC_le (k := 70400) fun c hc => ?_) ?_
    · have h1 := (h.st.cl c hc).len; have h2 := h.ok.e; show c.ents.length ≤ 70400; omega
    · have h1 := h.st.len; have h2 := h.ok.c; exact Nat.le_trans (Nat.mul_le_mul (show C.length ≤ 64 by omega) (Nat.le_refl _)) (by omega)
  have HP := hid h
  have HR : Hid (RC w mm w.heap.size C (fun c => c.ents.length) 0 w1 C) := ⟨hrg, fun c h => h, by simp, hB⟩
  have HX := hid hmx
  obtain ⟨r0, hr0⟩ : ∃ r0, w.heap.size = r0 := ⟨_, rfl⟩
  have HS := hid hr0
  rw [hr0] at hr' HR ⊢
  generalize hT : sumC (fun c => c.ents.length) C = T at *
  have HT := hid hT
  clear h hr hrg hB hmx hr0 hT
  go_enter Try.func17, Try.ntmps17
  go_wp2
  go_loopw [3, 11] (fun v _ wr => ∃ (n : Nat) (R : List Cl), v = .int .i64 n ∧ RC w mm r0 C (fun c => c.ents.length) n wr R) (fun _ _ wr => leftN wr mm r0)
  case atStart => exact ⟨0, C, rfl, HR.out⟩
  case round =>
    obtain ⟨n, R, rfl, hrc⟩ := hrel
    have HC := hid hrc
    clear hrc
    rcases HC.out.rg.next with ⟨hnil, hn⟩ | ⟨k, rest', w3, hpm, hkL, hn, hrg3, ho⟩
    · obtain rfl : R = [] := by simpa using hnil
      have HE : Hid ((n : Int) = (T : Int) ∧ Below r0 w wr) := ⟨by have := HC.out.sum; rw [HT.out] at this; simp [sumC] at this; omega, by have := HC.out.be; rwa [HS.out] at this⟩
      clear HC HR hnil
      go_wp2
      go_ret
      exact ⟨by rw [HE.out.1]; rfl, HE.out.2⟩
    · obtain ⟨x, R', hR, hxk, hrest⟩ := perm_map_cons hpm
      have hxR : x ∈ R := hR.mem_iff.2 (by simp)
      have hxC := HC.out.sub x hxR
      obtain ⟨kb1, kb2⟩ := HP.out.cl x hxC
      have sz3 := ho.size
      have hlx : x.b < w.heap.size := (Array.getElem?_eq_some_iff.1 kb1).1
      have hbb : Below w.heap.size w w3 := by
        have h1 := HC.out.be
        exact ⟨ho.os.trans h1.os, ho.tape.trans h1.tape, ho.output.trans h1.output, by have := h1.size; omega, fun y hy => (ho.kept y (by have := HS.out; omega)).trans (h1.block y hy)⟩
      have hb3 : w3.heap[x.b]? = some (clO g x) := (hbb.block _ hlx).trans kb1
      have y0 := cl2 hb3
      have hen := hrg3.entry
      subst hxk
      have hn' : ∀ ty, (Instr.next (ptr r0) false ty).run Try.prog wr = .ok (.tuple #[.bool true, whoV x.a x.i, ptr x.b]) w3 := hn
      have hen' : (Instr.entry (ptr r0)).run Try.prog w3 = .ok (.tuple #[whoV x.a x.i, ptr x.b]) w3 := hen
      have hsum : n + x.ents.length + sumC (fun c => c.ents.length) R' = T := by
        have := HC.out.sum
        rw [HT.out, sumC_perm hR, sumC_cons] at this
        omega
      have HE : Hid (RC w mm r0 C (fun c => c.ents.length) (n + x.ents.length) w3 R') := by
        refine ⟨?_, fun c hc => HC.out.sub c (hR.mem_iff.2 (by simp [hc])), by rw [HT.out]; exact hsum, hbb⟩
        have h9 := hrg3.rest hrest
        obtain ⟨a1, a2, a3, a4, a5, a6, a7, a8, a9, a10, a11, a12, a13, _⟩ := h9
        exact ⟨a1, a2, a3, a4, a5, a6, a7, a8, a9, a10, a11, a12, a13, fun x hx => by cases hx⟩
      have HM : Hid (leftN w3 mm r0 < leftN wr mm r0) := by
        have h5 : R.length = R'.length + 1 := hR.length_eq
        show leftN w3 mm r0 < leftN wr mm r0
        rw [HE.out.rg.left, HC.out.rg.left, List.length_map, List.length_map, h5]
        exact Nat.lt_succ_self _
      have hadd : wrap64 ((n : Int) + ((x.ents.length : Nat) : Int)) = ((n + x.ents.length : Nat) : Int) := by
        have := HX.out
        unfold wrap64; omega
      have hle : ∀ ty, (Builtin.len_ #[74] ty #[.map (some x.m)]).run Try.prog w3 = .ok (.int .i64 x.ents.length) w3 := (kb2.kept (hbb.block _ kb2.lt)).len
      generalize x.ents.length = phx at *
      clear hn hen hpm hkL hrg3 ho hR hrest hxR hxC kb1 kb2 sz3 hlx hbb hb3 hsum HC HR
      go_wp2
      go_roundw
      case rel => exact ⟨_, _, by rw [hadd], HE.out⟩
      case measure => exact HM.out

theorem clients_any {w : World} {p mm : Nat} {g : Cf} {C : List Cl} (h : PC w p g mm C) :
    Calls Try.prog 15 #[ptr p] w fun e w' => e = .returned (.int .i64 C.length) ∧ w' = w := by
  have c4 := h.c4
  have h2 : ∀ ty, (Builtin.len_ #[65] ty #[.map (some mm)]).run Try.prog w = .ok (.int .i64 (C.map Cl.ky).length) w := h.mp.len
  rw [List.length_map] at h2
  generalize C.length = n at *
  clear h
  go_enter Try.func15, Try.ntmps15
  go_wp2
  go_ret
  exact ⟨rfl, rfl⟩
theorem hasRoom_any {w : World} {p mm : Nat} {g : Cf} {C : List Cl} (h : PC w p g mm C) :
    Calls Try.prog 43 #[ptr p] w fun e w' => e = .returned (.bool (decide (tot g.rs C + g.rs ≤ g.by_))) ∧ Below w.heap.size w w' := by
  have hb := h.ok.b
  have hr := h.ok.r
  have ht := h.st.tot
  have HB : Hid (∀ i, Calls Try.prog 16 #[ptr p] (w.drewN i) fun e w' => e = .returned (.int .i64 (tot g.rs C)) ∧ Below w.heap.size (w.drewN i) w') := fun i => bytes_any (h.drewN i)
  have HP := hid h
  have c2 := h.c2
  have c3 := h.c3
  have hadd : IntKind.i64.wrap ((tot g.rs C : Int) + (g.rs : Int)) = ((tot g.rs C + g.rs : Nat) : Int) := by rw [← wrap64_is]; unfold wrap64; omega
  have hde : decide (((tot g.rs C + g.rs : Nat) : Int) ≤ (g.by_ : Int)) = decide (tot g.rs C + g.rs ≤ g.by_) := by
    by_cases e : tot g.rs C + g.rs ≤ g.by_
    · simp [e]; omega
    · simp [e]; omega
  have HA := hid hadd
  have HD := hid hde
  clear h hb hr ht hadd hde
  generalize tot g.rs C = T at *
  go_enter Try.func43, Try.ntmps43
  go_wp2_with fail
  have s1 : w.cell? ⟨p, 2, none⟩ = some (.int .i64 g.by_) ∧ w.cell? ⟨p, 3, none⟩ = some (.int .i64 g.rs) := ⟨c2, c3⟩
  have s2 : ∀ i, (w.drewN i).cell? ⟨p, 2, none⟩ = some (.int .i64 g.by_) ∧ (w.drewN i).cell? ⟨p, 3, none⟩ = some (.int .i64 g.rs) := fun _ => ⟨c2, c3⟩
  go_region_held3 (fun w' => w'.cell? ⟨p, 2, none⟩ = some (.int .i64 g.by_) ∧ w'.cell? ⟨p, 3, none⟩ = some (.int .i64 g.rs)) (first | with_reducible exact s1 | with_reducible exact s2 _ | with_reducible exact s7 | exact s1) (first
    | (go_at_call 16
       refine (HB.out _).mono ?_
       rintro e w5 ⟨rfl, hB5⟩
       have d2 := (HP.out.kept (w' := w5) fun x hx => hB5.block x (HP.out.lt x hx)).c2
       have d3 := (HP.out.kept (w' := w5) fun x hx => hB5.block x (HP.out.lt x hx)).c3
       have s7 : w5.cell? ⟨p, 2, none⟩ = some (.int .i64 g.by_) ∧ w5.cell? ⟨p, 3, none⟩ = some (.int .i64 g.rs) := ⟨d2, d3⟩
       have HW : Hid (Below w.heap.size w w5) := ⟨hB5.os, hB5.tape, hB5.output, hB5.size, hB5.block⟩
       clear hB5))
  all_goals (
    rw [HA.out, HD.out]
    go_wp2
    go_ret
    exact ⟨rfl, HW.out⟩)
end Go.Proofs.Ytnpffhgmakbdnaa
