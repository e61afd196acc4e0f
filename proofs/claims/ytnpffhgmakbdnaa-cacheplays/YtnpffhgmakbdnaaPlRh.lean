/- The document's cache: Ask of a stranger. -/
import Derived.Test.YtnpffhgmakbdnaaPlRg
namespace Go.Proofs.Ytnpffhgmakbdnaa
open Go.RowKit
section
variable {K K' : Nat → Nat} {w w' : World} {B t x : Nat} {g : Cf} {v1 v2 : Value} {L : List Kn} {I : List Sn} {C : List Cl} {a i seq water : Int}
set_option maxRecDepth 4000 in
theorem dask_fullU (h : DC K w B t x g v1 v2 L I) (rel : REL C L I) (st : StOk g C) (hg : CfOk g) (hv : Vd a i seq water) (hn : ∀ c ∈ C, ¬ c.is a i) (hs : ¬ seq < water) (hfull : g.cl ≤ C.length ∨ ¬ tot g.rs C + g.rs ≤ g.by_) :
    Calls Try.prog 21 #[ptr x, whoV a i, .int .i64 seq, .int .i64 water] w (AskPostS K w B t x g 5 ⟨#[]⟩ C) := by
  obtain ⟨w0, hw0⟩ : ∃ w0, w.alloc (.cells #[.int .i64 a, .int .i64 i] 37) = w0 := ⟨_, rfl⟩
  have B0 : Below w.heap.size w w0 := by rw [← hw0]; exact below_box _ _
  have kb : w0.heap[w.heap.size]? = some (.cells #[.int .i64 a, .int .i64 i] 37) := by rw [← hw0]; exact (MapKept.heap_alloc w _).1
  have m0 := Mv.of_below B0 K (fun _ => t + 9)
  have h0 := h.mv m0 id id id
  obtain ⟨A0, hA⟩ : ∃ A0, w.heap.size = A0 := ⟨_, rfl⟩
  rw [hA] at kb
  have k0 : w0.cell? ⟨A0, 0, none⟩ = some (.int .i64 a) := by unfold World.cell?; rw [kb]; rfl
  have k1 : w0.cell? ⟨A0, 1, none⟩ = some (.int .i64 i) := by unfold World.cell?; rw [kb]; rfl
  have HLT : Hid (A0 < w0.heap.size) := (Array.getElem?_eq_some_iff.1 kb).1
  obtain ⟨d0, d1, d2, d3, d4, d5, d6, d7⟩ := hv
  have sm := rel_small rel st hg
  have HC := hid (client_any h0 (by omega) a i)
  have HH := hid (And.intro h0 m0)
  have HR := hid (And.intro rel hn)
  have HSM := hid sm
  have HST := hid (And.intro st hg)
  have dsw : decide (seq < water) = false := by simpa using hs
  have HK := hid kb
  clear h h0 m0 B0 kb rel st hg sm hn hs
  generalize hPO : AskPostS K w B t x g 5 ⟨#[]⟩ C = PO
  have HPO := hid hPO
  clear hPO
  go_enter Try.func21, Try.ntmps21
  go_wp2_with fail
  refine HC.out.mono ?_
  rintro _ w1 ⟨v, rfl, hf, hb1⟩
  obtain rfl := rel_stranger HR.out.1 HR.out.2 hf
  have m1 := Mv.of_below hb1 (ext w K (fun _ => t + 9)) (fun _ => t + 9)
  have h1 := HH.out.1.mv m1 id id id
  have H1 := hid (And.intro h1 (HH.out.2.trans m1))
  have kk1 : w1.heap[A0]? = _ := (hb1.block _ HLT.out).trans HK.out
  have y0 : w1.cell? ⟨A0, 0, none⟩ = some (.int .i64 a) := by unfold World.cell?; rw [kk1]; rfl
  have y1 : w1.cell? ⟨A0, 1, none⟩ = some (.int .i64 i) := by unfold World.cell?; rw [kk1]; rfl
  have HK1 := hid kk1
  clear hf hb1 m1 h1 kk1
  have HIT := hid (item_any H1.out.1 (by have := HSM.out; omega) a i seq)
  go_wp2_with fail
  refine HIT.out.mono ?_
  rintro _ w2 ⟨v, rfl, hf, hb2⟩
  obtain rfl : v = -1 := by
    rcases hf with ⟨e, _⟩ | ⟨L1, L2, y, e1, _, e3, _⟩
    · exact e
    · obtain ⟨c, hc, q⟩ := HR.out.1.w y (by rw [e1]; simp)
      exact absurd ⟨q.1.trans e3.1, q.2.trans e3.2.1⟩ (HR.out.2 c hc)
  have m2 := Mv.of_below hb2 (ext w0 (ext w K (fun _ => t + 9)) (fun _ => t + 9)) (fun _ => t + 9)
  have h2 := H1.out.1.mv m2 id id id
  have mw := H1.out.2.trans m2
  have kk2 : w2.heap[A0]? = _ := (hb2.block _ (Array.getElem?_eq_some_iff.1 HK1.out).1).trans HK1.out
  have HK2 := hid kk2
  obtain ⟨KA, HKA⟩ : ∃ KA, Hid (DC KA w2 B t x g v1 v2 L I ∧ Mv (fun _ => False) w w2 K KA) := ⟨_, h2, mw⟩
  clear hf hb2 m2 h2 mw kk2 H1 HIT HK1 y0 y1 HH HC
  obtain ⟨Z, f, hf1, hf2⟩ : ∃ (Z : Type) (f : Z → World), (∀ z, Below w2.heap.size w2 (f z)) ∧ ∀ w', Below w2.heap.size w2 w' → ∃ z, w' = f z := ⟨{ w' // Below w2.heap.size w2 w' }, Subtype.val, fun z => z.2, fun w' h => ⟨⟨w', h⟩, rfl⟩⟩
  have HZD : Hid (∀ z, DC (ext w2 KA (fun _ => t + 9)) (f z) B t x g v1 v2 L I ∧ Mv (fun _ => False) w (f z) K (ext w2 KA (fun _ => t + 9)) ∧ (f z).heap[A0]? = some (.cells #[.int .i64 a, .int .i64 i] 37)) := fun z => by
    have mz := Mv.of_below (hf1 z) KA (fun _ => t + 9)
    exact ⟨HKA.out.1.mv mz id id id, HKA.out.2.trans mz, ((hf1 z).block _ (Array.getElem?_eq_some_iff.1 HK2.out).1).trans HK2.out⟩
  obtain ⟨oa, cap, e1, _, _⟩ := HKA.out.1.l.form
  obtain ⟨nL, hnL⟩ : ∃ nL, L.length = nL := ⟨_, rfl⟩
  rw [hnL] at e1
  subst e1
  obtain ⟨nLi, hnLi⟩ : ∃ nLi : Int, (nL : Int) = nLi := ⟨_, rfl⟩
  have hlenb : ∀ (ty : TypeId) (W : World), (Builtin.len_ #[68] ty #[.slice oa nL cap]).run Try.prog W = .ok (.int .i64 nLi) W := fun ty W => by rw [← hnLi]; rfl
  obtain ⟨gc, hgc⟩ : ∃ gc : Int, (g.cl : Int) = gc := ⟨_, rfl⟩
  obtain ⟨ge, hge⟩ : ∃ ge : Int, (g.en : Int) = ge := ⟨_, rfl⟩
  obtain ⟨gb, hgb⟩ : ∃ gb : Int, (g.by_ : Int) = gb := ⟨_, rfl⟩
  obtain ⟨gr, hgr⟩ : ∃ gr : Int, (g.rs : Int) = gr := ⟨_, rfl⟩
  obtain ⟨bn, hbn⟩ : ∃ bn : Int, ((tot g.rs C : Nat) : Int) = bn := ⟨_, rfl⟩
  have x0 : ∀ z, (f z).cell? ⟨x, 0, none⟩ = some (.int .i64 gc) := fun z => by rw [← hgc]; exact (HZD.out z).1.c0
  have x1 : ∀ z, (f z).cell? ⟨x, 1, none⟩ = some (.int .i64 ge) := fun z => by rw [← hge]; exact (HZD.out z).1.c1
  have x2 : ∀ z, (f z).cell? ⟨x, 2, none⟩ = some (.int .i64 gb) := fun z => by rw [← hgb]; exact (HZD.out z).1.c2
  have x3 : ∀ z, (f z).cell? ⟨x, 3, none⟩ = some (.int .i64 gr) := fun z => by rw [← hgr]; exact (HZD.out z).1.c3
  have x4 : ∀ z, (f z).cell? ⟨x, 4, none⟩ = some (.slice oa nL cap) := fun z => (HZD.out z).1.c4
  have z0 : ∀ z, (f z).cell? ⟨A0, 0, none⟩ = some (.int .i64 a) := fun z => by unfold World.cell?; rw [(HZD.out z).2.2]; rfl
  have z1 : ∀ z, (f z).cell? ⟨A0, 1, none⟩ = some (.int .i64 i) := fun z => by unfold World.cell?; rw [(HZD.out z).2.2]; rfl
  have HOF : Hid (∀ z, Calls Try.prog 39 #[ptr x, whoV a i] (f z) fun e w'' => e = .returned (.int .i64 0) ∧ ∃ z', w'' = f z') := fun z => by
    have h9 := of_any (HZD.out z).1 (by have := HSM.out; omega) a i
    rw [rel_of0 HR.out.1 HR.out.2] at h9
    refine h9.mono ?_
    rintro _ w'' ⟨rfl, hb⟩
    exact ⟨rfl, hf2 _ ((hf1 z).trans (hb.mono (hf1 z).size))⟩
  have HBY : Hid (∀ z, Calls Try.prog 28 #[ptr x] (f z) fun e w'' => e = .returned (.int .i64 bn) ∧ ∃ z', w'' = f z') := fun z => by
    refine (dbytes_any (HZD.out z).1 (by have := HSM.out; omega) (rel_sizes HR.out.1 HST.out.1 HST.out.2)).mono ?_
    rintro _ _ ⟨rfl, rfl⟩
    exact ⟨by rw [rel_bytes g.rs C I HST.out.1.who HR.out.1.i HR.out.1.w, hbn], z, rfl⟩
  have HZ0 : Hid (∃ z, w2.drew = f z) := hf2 _ (Below.refl _ _).drew
  have instZ : Nonempty Z := ⟨HZ0.out.choose⟩
  have hok := HST.out.2
  have hcl := hok.c
  have hce := hok.e
  have hcr := hok.r
  have hcb := hok.b
  have hstl := HST.out.1.len
  have hstt := HST.out.1.tot
  have hLC : L.length = C.length := by rw [HR.out.1.l]; simp
  have dE : (0 == ge) = false := by simp; omega
  have hsum : wrap64 (bn + gr) = bn + gr := by unfold wrap64; omega
  have dA : decide ((-1 : Int) < 0) = true := by decide
  have HE : Hid (∀ z, PO (.returned (.tuple #[.int .i64 5, .string ⟨#[]⟩])) (f z)) := fun z => by
    rw [← HPO.out]
    exact ⟨rfl, _, _, _, _, _, (HZD.out z).1, HR.out.1, (HZD.out z).2.1.mono (fun _ h => h.elim)⟩
  by_cases hmany : g.cl ≤ C.length
  · have dC : (nLi == gc) = true := by simp; omega
    clear hok hcl hce hcr hcb hstl hstt hLC hnL hgc hge hgb hgr hbn hf1 hf2 hnLi HK2
    go_wp2_with fail
    refine wp_region_class f (by kernel_rfl) (by kernel_rfl) HZ0.out ?_
    repeat (go_big_quiet_step (first | (go_at_call 39; exact HOF.out _) | (go_at_call 28; exact HBY.out _)))
    refine wpQuiet_nil ?_
    rintro _ ⟨z, rfl⟩
    go_wp2
    exact HE.out z
  · have dC : (nLi == gc) = false := by simp; omega
    have dB : decide (gb < bn + gr) = true := by simp; omega
    clear hok hcl hce hcr hcb hstl hstt hLC hnL hgc hge hgb hgr hbn hf1 hf2 hnLi HK2
    go_wp2_with fail
    refine wp_region_class f (by kernel_rfl) (by kernel_rfl) HZ0.out ?_
    repeat (go_big_quiet_step (first | (go_at_call 39; exact HOF.out _) | (go_at_call 28; exact HBY.out _)))
    refine wpQuiet_nil ?_
    rintro _ ⟨z, rfl⟩
    go_wp2
    exact HE.out z
end
end Go.Proofs.Ytnpffhgmakbdnaa
