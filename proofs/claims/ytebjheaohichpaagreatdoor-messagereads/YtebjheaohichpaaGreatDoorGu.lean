/- The document's Reader: Rest, Wrong; a credential read. What it reads, plainly, is what the program reads. The document reads a call. -/
import Derived.Test.YtebjheaohichpaaGreatDoorGl
import Derived.Test.YtebjheaohichpaaGreatDoorGp
namespace Go.Proofs.YtebjheaohichpaaGreatDoor
open Go.RowKit
theorem drest_A (p : Nat) (E : Int) (w : World) (hE : (E != 0) = true) (h1 : w.cell? ⟨p, 1, none⟩ = some (.int .i64 E)) :
    Calls Tryz.prog 63 #[.pointer (some ⟨p, 0, none⟩)] w fun e w' => e = .returned (.string ⟨#[]⟩) ∧ w' = w := by
  go_enter Tryz.func63, Tryz.ntmps63
  go_wp2
  go_ret
  exact ⟨rfl, rfl⟩
theorem drest_B {Q : World → Prop} (p : Nat) (s t : ByteArray) (w : World) (h0 : w.cell? ⟨p, 0, none⟩ = some (.string s)) (h1 : w.cell? ⟨p, 1, none⟩ = some (.int .i64 0)) (HK : Hid (Calls Tryz.prog 79 #[.pointer (some ⟨p, 0, none⟩), .int .i64 s.size] w fun e w' => e = .returned (.string t) ∧ Q w')) :
    Calls Tryz.prog 63 #[.pointer (some ⟨p, 0, none⟩)] w fun e w' => e = .returned (.string t) ∧ Q w' := by
  go_enter Tryz.func63, Tryz.ntmps63
  go_wp2_with fail
  refine HK.out.mono ?_
  rintro e w9 ⟨rfl, hQ⟩
  have HQ : Hid (Q w9) := hQ
  clear hQ
  go_wp2
  go_ret
  exact ⟨rfl, HQ.out⟩

theorem drest_any (p : Nat) (l : List UInt8) (E : Int) (w : World) (h : DR w p l E) : Calls Tryz.prog 63 #[.pointer (some ⟨p, 0, none⟩)] w (DPost p l E [] rdRest (fun s => Bs s) w) := by
  by_cases hE : E = 0
  · subst hE
    refine (drest_B p _ _ w h.l h.e (by rw [Bs_size]; exact takes_any p l.length l 0 w h (Nat.le_refl _))).mono ?_
    rw [List.take_length]
    exact fun e w' hp => DPost.good (k := l.length) (x := l) rfl hp
  · refine (drest_A p E w (bne_iff_ne.2 hE) h.e).mono ?_
    rintro e w' ⟨rfl, rfl⟩
    exact DPost.bad (F := E) (by rw [if_neg hE]) hE ⟨rfl, h, Sole.refl _ _⟩

theorem dwrong_any (p : Nat) (l : List UInt8) (E : Int) (w : World) (h : DR w p l E) : Calls Tryz.prog 61 #[.pointer (some ⟨p, 0, none⟩)] w fun e w' => e = .returned (.int .i64 E) ∧ w' = w := by
  have h1 := h.e
  clear h
  go_enter Tryz.func61, Tryz.ntmps61
  go_wp2
  go_ret
  exact ⟨rfl, rfl⟩
set_option maxRecDepth 4000 in
theorem dread_any (p : Nat) (st : Rs) (w : World) (h : DR w p st.l st.e) :
    Calls Tryz.prog 62 #[.pointer (some ⟨p, 0, none⟩)] w fun e w' => e = .returned (.agg #[.int .i64 (rdAuth st).1.flavor, .string ⟨(rdAuth st).1.body.toArray⟩]) ∧ DR w' p (rdAuth st).2.l (rdAuth st).2.e ∧ Sole p w w' := by
  obtain ⟨wa, hwa⟩ : ∃ x, w.alloc (.cells #[.int .i64 0, .string ⟨#[]⟩] 23) = x := ⟨_, rfl⟩
  obtain ⟨hk, hB, hz⟩ := boxed w wa _ _ hwa
  have hp := h.lt
  have H1 := hid (duint_any p st.l st.e wa (h.below hB))
  have H2 : Hid (∀ w1, DR w1 p (st.go 0 rdWord).2.l (st.go 0 rdWord).2.e → Calls Tryz.prog 81 #[.pointer (some ⟨p, 0, none⟩), .int .i64 400] w1 (DPost p (st.go 0 rdWord).2.l (st.go 0 rdWord).2.e [] (rdOpaque 400) (fun s => Bs s) w1)) := fun w1 h1 => dopaque_any p 400 _ _ w1 h1
  have HK : Hid (Bk wa w.heap.size [.int .i64 0, .string ⟨#[]⟩] 23 ∧ w.heap.size ≠ p ∧ Sole p w wa) := ⟨hk, by omega, Sole.of_below hB⟩
  have HD : Hid (rdAuth st = (⟨(st.go 0 rdWord).1, ((st.go 0 rdWord).2.go [] (rdOpaque 400)).1⟩, ((st.go 0 rdWord).2.go [] (rdOpaque 400)).2)) := rfl
  rw [HD.out]
  clear hk hB hz hp h HD
  go_enter Tryz.func62, Tryz.ntmps62
  go_wp2_with fail
  refine H1.out.mono ?_
  rintro e w1 ⟨rfl, h1, hS1⟩
  have H3 := hid (H2.out w1 h1)
  have HS1 := hid hS1
  clear h1 hS1 H1 H2
  go_wp2_with fail
  refine H3.out.mono ?_
  rintro e w2 ⟨rfl, h2, hS2⟩
  have HR2 := hid h2
  have HS2 : Hid (Sole p wa w2) := HS1.out.trans hS2
  have hk2 := HK.out.1.sole HS2.out HK.out.2.1
  have k0 := hk2.cell 0 rfl
  have k1 := hk2.cell 1 rfl
  have f0 := hk2.frozen 0
  have f1 := hk2.frozen 1
  have HZ := (hk2.set 0 (.int .i64 ((st.go 0 rdWord).1 : Int))).set 1 (.string ⟨((st.go 0 rdWord).2.go [] (rdOpaque 400)).1.toArray⟩)
  have q0 := HZ.cell 0 rfl
  have q1 := HZ.cell 1 rfl
  have HE : Hid (DR ((w2.setCell ⟨w.heap.size, 0, none⟩ (.int .i64 ((st.go 0 rdWord).1 : Int))).setCell ⟨w.heap.size, 1, none⟩ (.string ⟨((st.go 0 rdWord).2.go [] (rdOpaque 400)).1.toArray⟩)) p ((st.go 0 rdWord).2.go [] (rdOpaque 400)).2.l ((st.go 0 rdWord).2.go [] (rdOpaque 400)).2.e ∧ Sole p w ((w2.setCell ⟨w.heap.size, 0, none⟩ (.int .i64 ((st.go 0 rdWord).1 : Int))).setCell ⟨w.heap.size, 1, none⟩ (.string ⟨((st.go 0 rdWord).2.go [] (rdOpaque 400)).1.toArray⟩))) := by
    have hb : ∀ k, k ≠ w.heap.size → ((w2.setCell ⟨w.heap.size, 0, none⟩ (.int .i64 ((st.go 0 rdWord).1 : Int))).setCell ⟨w.heap.size, 1, none⟩ (.string ⟨((st.go 0 rdWord).2.go [] (rdOpaque 400)).1.toArray⟩)).heap[k]? = w2.heap[k]? := fun k hk => by
      rw [Below.heap_setCell _ _ _ k hk, Below.heap_setCell _ _ _ k hk]
    have hs := HK.out.2.2.trans HS2.out
    refine ⟨?_, hs.os, hs.tape, hs.output, by simpa [World.setCell] using hs.size, fun k hk hne => (hb k (by omega)).trans (hs.block k hk hne)⟩
    have e := hb p (fun e => HK.out.2.1 e.symm)
    exact ⟨(cells_same e 0).1.trans HR2.out.l, (cells_same e 1).1.trans HR2.out.e, (cells_same e 0).2.trans HR2.out.f0, (cells_same e 1).2.trans HR2.out.f1⟩
  clear h2 hS2 hk2 HZ H3
  unfold Bs
  go_wp2
  refine bodyPost_ret (v := .agg #[.int .i64 ((st.go 0 rdWord).1 : Int), .string ⟨((st.go 0 rdWord).2.go [] (rdOpaque 400)).1.toArray⟩]) (by simp [results, Tryz.results62, go_sem, q0, q1]) rfl ⟨rfl, HE.out⟩
/-- what the document's reading of a call tells -/
def dcP (s : List UInt8) : CallP × Int :=
  if (rdCallR ⟨s, 0⟩).r.2.e ≠ 0 ∨ ((rdCallR ⟨s, 0⟩).k.1 : Int) ≠ 0 then (nulC, 121)
  else if ((rdCallR ⟨s, 0⟩).r.1 : Int) ≠ 2 then (⟨(rdCallR ⟨s, 0⟩).x.1, (rdCallR ⟨s, 0⟩).r.1, 0, 0, 0, nulA, nulA, []⟩, 0)
  else
    let c : CallP := ⟨(rdCallR ⟨s, 0⟩).x.1, (rdCallR ⟨s, 0⟩).r.1, (rdCallR ⟨s, 0⟩).p.1, (rdCallR ⟨s, 0⟩).v.1, (rdCallR ⟨s, 0⟩).q.1, (rdCallR ⟨s, 0⟩).c.1, (rdCallR ⟨s, 0⟩).f.1, ((rdCallR ⟨s, 0⟩).f.2.go [] rdRest).1⟩
    if c.may ∧ c.lay = s then (c, 0) else (nulC, 121)
theorem sign_same (s : List UInt8) (hk : ((rdCallR ⟨s, 0⟩).k.1 : Int) = 0) : (rdCallQ ⟨s, 0⟩).h = ((rdCallR ⟨s, 0⟩).x.1, (rdCallR ⟨s, 0⟩).k.2) ∧ (rdCallQ ⟨s, 0⟩).r = (rdCallR ⟨s, 0⟩).r := by
  have h1 : (rdCallQ ⟨s, 0⟩).h = ((rdCallR ⟨s, 0⟩).x.1, (rdCallR ⟨s, 0⟩).k.2) := by
    show rdHead 0 ⟨s, 0⟩ = _
    unfold rdHead
    have hk2 : ((((⟨s, 0⟩ : Rs).go 0 rdWord).2.go 0 rdWord).1 : Int) = 0 := hk
    rw [if_pos hk2]
    rfl
  refine ⟨h1, ?_⟩
  show (rdCallQ ⟨s, 0⟩).h.2.go 0 rdWord = _
  rw [h1]
  rfl
theorem rest_all {st : Rs} (h : st.e = 0) : (st.go [] rdRest).1 = st.l := by
  unfold Rs.go rdRest
  rw [if_neg (by simp [h])]
  simp
theorem dcP_is (s : List UInt8) : dcP s = parseC s := by
  rcases parseC_form s with ⟨h1, h2, h3⟩ | h1
  · have hk : ((rdCallR ⟨s, 0⟩).k.1 : Int) = 0 := by
      have : (rdCallR ⟨s, 0⟩).k.1 = 0 := h2
      omega
    obtain ⟨e1, e2⟩ := sign_same s hk
    by_cases hr : (parseC s).1.rpc = 2
    · obtain ⟨hm, hs⟩ := h3 hr
      obtain ⟨x, k, r, p, v, q, t, e, ec⟩ := call_there _ hm
      rw [← hs] at e ec
      have hc : (⟨(rdCallR ⟨s, 0⟩).x.1, (rdCallR ⟨s, 0⟩).r.1, (rdCallR ⟨s, 0⟩).p.1, (rdCallR ⟨s, 0⟩).v.1, (rdCallR ⟨s, 0⟩).q.1, (rdCallR ⟨s, 0⟩).c.1, (rdCallR ⟨s, 0⟩).f.1, ((rdCallR ⟨s, 0⟩).f.2.go [] rdRest).1⟩ : CallP) = (parseC s).1 := by
        refine Eq.trans ?_ ec
        unfold CallR.call
        rw [rest_all (show (rdCallR ⟨s, 0⟩).f.2.e = 0 by rw [e])]
      have hre : (rdCallR ⟨s, 0⟩).r.2.e = 0 := by
        have hf : (rdCallR ⟨s, 0⟩).f.2.e = 0 := by rw [e]
        obtain ⟨f1, _⟩ := auth_back (rdCallR ⟨s, 0⟩).c.2 hf
        obtain ⟨c1, _⟩ := auth_back (rdCallR ⟨s, 0⟩).q.2 f1
        obtain ⟨q1, _⟩ := go_one one_word 0 (rdCallR ⟨s, 0⟩).v.2 c1
        obtain ⟨v1, _⟩ := go_one one_word 0 (rdCallR ⟨s, 0⟩).p.2 q1
        exact (go_one one_word 0 (rdCallR ⟨s, 0⟩).r.2 v1).1
      have hr2 : ((rdCallR ⟨s, 0⟩).r.1 : Int) = 2 := by rw [e]; rfl
      unfold dcP
      rw [if_neg (fun o => o.elim (fun q => q hre) (fun q => q hk)), if_neg (fun q => q hr2)]
      simp only [hc]
      rw [if_pos ⟨hm, hs.symm⟩]
      exact Prod.ext rfl h1.symm
    · unfold parseC at h1 hr ⊢
      by_cases hb : (rdCallQ ⟨s, 0⟩).r.2.e = 0 ∧ ((rdCallQ ⟨s, 0⟩).r.1 : Int) ≠ 2
      · rw [if_pos hb]
        unfold dcP CallQ.two
        rw [e1, e2]
        rw [e2] at hb
        rw [if_neg (fun o => o.elim (fun q => q hb.1) (fun q => q hk)), if_pos hb.2]
      · rw [if_neg hb] at h1 hr
        by_cases hd : rdDone (rdCallQ ⟨s, 0⟩).a.2.l (rdCallQ ⟨s, 0⟩).a.2.e = 0
        · rw [if_pos hd] at hr
          obtain ⟨he, _⟩ := done_zero hd
          obtain ⟨t1, _⟩ := tail_back (rdCallQ ⟨s, 0⟩).f.2 he
          obtain ⟨f1, _⟩ := auth_back (rdCallQ ⟨s, 0⟩).c.2 t1
          obtain ⟨c1, _⟩ := auth_back (rdCallQ ⟨s, 0⟩).q.2 f1
          obtain ⟨q1, _⟩ := go_one one_word 0 (rdCallQ ⟨s, 0⟩).v.2 c1
          obtain ⟨v1, _⟩ := go_one one_word 0 (rdCallQ ⟨s, 0⟩).p.2 q1
          have r1 := (go_one one_word 0 (rdCallQ ⟨s, 0⟩).r.2 v1).1
          exact absurd (Decidable.not_not.1 fun q => hb ⟨r1, q⟩) hr
        · rw [if_neg hd] at h1; exact absurd h1 (by decide)
  · rw [h1]
    unfold dcP
    by_cases ha : (rdCallR ⟨s, 0⟩).r.2.e ≠ 0 ∨ ((rdCallR ⟨s, 0⟩).k.1 : Int) ≠ 0
    · rw [if_pos ha]
    · rw [if_neg ha]
      have hk : ((rdCallR ⟨s, 0⟩).k.1 : Int) = 0 := Decidable.not_not.1 fun q => ha (.inr q)
      have he : (rdCallR ⟨s, 0⟩).r.2.e = 0 := Decidable.not_not.1 fun q => ha (.inl q)
      obtain ⟨e1, e2⟩ := sign_same s hk
      by_cases hr : ((rdCallR ⟨s, 0⟩).r.1 : Int) ≠ 2
      · exfalso
        unfold parseC at h1
        rw [if_pos (by rw [e2]; exact ⟨he, hr⟩)] at h1
        exact absurd (congrArg Prod.snd h1) (by show ¬ (0 : Int) = 121; decide)
      · rw [if_neg hr]
        simp only
        split
        · rename_i hm
          have h4 := parseC_there _ hm.1
          rw [hm.2, h1] at h4
          exact absurd (congrArg Prod.snd h4) (by show ¬ (121 : Int) = 0; decide)
        · rfl
end Go.Proofs.YtebjheaohichpaaGreatDoor
namespace Go.Proofs.YtebjheaohichpaaGreatDoor
open Go.RowKit
/-- the document's reading: the result's block, the Reader, the message -/
structure DT (w0 w : World) (n : Nat) (st : Rs) (cs zs : List Value) (t : TypeId) : Prop where
  r : DR w (n + 1) st.l st.e
  k : Bk w (n + 1 + 1) cs t
  z : Bk w n zs t
  low : Below n w0 w
theorem DT.call {w0 w w' : World} {n : Nat} {st st' : Rs} {cs zs : List Value} {t : TypeId} (h : DT w0 w n st cs zs t) (hr : DR w' (n + 1) st'.l st'.e) (hS : Sole (n + 1) w w') : DT w0 w' n st' cs zs t :=
  ⟨hr, h.k.sole hS (by omega), h.z.sole hS (by omega), h.low.trans (hS.belowB (by omega) (by have := h.z.lt; omega))⟩
theorem DT.set {w0 w : World} {n : Nat} {st : Rs} {cs zs : List Value} {t : TypeId} (h : DT w0 w n st cs zs t) (i : Nat) (v : Value) : DT w0 (w.setCell ⟨n + 1 + 1, i, none⟩ v) n st (cs.set i v) zs t := by
  have e : (w.setCell ⟨n + 1 + 1, i, none⟩ v).heap[n + 1]? = w.heap[n + 1]? := Below.heap_setCell _ _ _ _ (show n + 1 ≠ n + 1 + 1 by omega)
  exact ⟨⟨(cells_same e 0).1.trans h.r.l, (cells_same e 1).1.trans h.r.e, (cells_same e 0).2.trans h.r.f0, (cells_same e 1).2.trans h.r.f1⟩, h.k.set i v, h.z.set_ne (by omega) i v, h.low.setCell (show n ≤ n + 1 + 1 by omega) v⟩
theorem DT.below {w0 w w' : World} {n : Nat} {st : Rs} {cs zs : List Value} {t : TypeId} (h : DT w0 w n st cs zs t) (hB : Below w.heap.size w w') : DT w0 w' n st cs zs t :=
  ⟨h.r.below hB, h.k.below hB h.k.lt, h.z.below hB h.z.lt, h.low.trans (hB.mono (by have := h.z.lt; omega))⟩
theorem DT.uint {w0 w : World} {n : Nat} {st : Rs} {cs zs : List Value} {t : TypeId} (h : DT w0 w n st cs zs t) :
    Calls Tryz.prog 60 #[.pointer (some ⟨n + 1, 0, none⟩)] w fun e w' => e = .returned (.int .i64 ((st.go 0 rdWord).1 : Int)) ∧ DT w0 w' n (st.go 0 rdWord).2 cs zs t :=
  (duint_any _ st.l st.e w h.r).mono fun _ _ hp => ⟨hp.1, h.call hp.2.1 hp.2.2⟩
theorem DT.auth {w0 w : World} {n : Nat} {st : Rs} {cs zs : List Value} {t : TypeId} (h : DT w0 w n st cs zs t) :
    Calls Tryz.prog 62 #[.pointer (some ⟨n + 1, 0, none⟩)] w fun e w' => e = .returned (.agg #[.int .i64 (rdAuth st).1.flavor, .string ⟨(rdAuth st).1.body.toArray⟩]) ∧ DT w0 w' n (rdAuth st).2 cs zs t :=
  (dread_any _ st w h.r).mono fun _ _ hp => ⟨hp.1, h.call hp.2.1 hp.2.2⟩
theorem DT.rest {w0 w : World} {n : Nat} {st : Rs} {cs zs : List Value} {t : TypeId} (h : DT w0 w n st cs zs t) :
    Calls Tryz.prog 63 #[.pointer (some ⟨n + 1, 0, none⟩)] w fun e w' => e = .returned (.string ⟨(st.go [] rdRest).1.toArray⟩) ∧ DT w0 w' n (st.go [] rdRest).2 cs zs t :=
  (drest_any _ st.l st.e w h.r).mono fun _ _ hp => ⟨hp.1, h.call hp.2.1 hp.2.2⟩
theorem DT.start (zs : List Value) (s : List UInt8) (t : TypeId) (w wa wb wc : World) (ha : w.alloc (.cells zs.toArray t) = wa) (hb : wb = wa.alloc (.cells #[.string ⟨s.toArray⟩, .int .i64 0] 142)) (hc : wb.alloc (.cells zs.toArray t) = wc) :
    DT w wc w.heap.size ⟨s, 0⟩ zs zs t ∧ wa.heap.size = w.heap.size + 1 ∧ wb.heap.size = w.heap.size + 1 + 1 := by
  obtain ⟨k1, B1, z1⟩ := boxed w wa zs t ha
  obtain ⟨k3, B3, z3⟩ := boxed wb wc zs t hc
  have z2 : wb.heap.size = wa.heap.size + 1 := by rw [hb]; simp
  have B2 : Below wa.heap.size wa wb := by rw [hb]; exact below_new _ _
  have hr := DR.new s wa
  rw [← hb, z1] at hr
  rw [z2, z1] at k3
  refine ⟨⟨hr.below B3, k3, (k1.below B2 (by omega)).below B3 (by omega), (B1.trans (B2.mono (by omega))).trans (B3.mono (by omega))⟩, z1, by omega⟩
end Go.Proofs.YtebjheaohichpaaGreatDoor
