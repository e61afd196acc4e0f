/- The document's cache: Ask. -/
import Derived.Test.YtnpffhgmakbdnaaPlRf
import Derived.Deep.CutBlock
import Derived.Deep.CutRange
namespace Go.Proofs.Ytnpffhgmakbdnaa
open Go.RowKit
def AskPostS (K : Nat → Nat) (w : World) (B t x : Nat) (g : Cf) (v : Int) (s : ByteArray) (C' : List Cl) (e : Ending) (w' : World) : Prop :=
  e = .returned (.tuple #[.int .i64 v, .string s]) ∧ ∃ K' v1 v2 L' I', DC K' w' B t x g v1 v2 L' I' ∧ REL C' L' I' ∧ Mv (T3 t) w w' K K'
section
variable {K K' : Nat → Nat} {w w' : World} {B t x : Nat} {g : Cf} {v1 v2 : Value} {L : List Kn} {I : List Sn} {C : List Cl} {a i seq water : Int}
set_option maxRecDepth 4000 in
theorem dask_bad (h : DC K w B t x g v1 v2 L I) (rel : REL C L I) (hb : ¬ (inB a 1 16777215 = true ∧ inB i 1 4611686018427387904 = true ∧ inB seq 1 4294967295 = true ∧ inB water 1 4294967295 = true)) :
    Calls Try.prog 21 #[ptr x, whoV a i, .int .i64 seq, .int .i64 water] w (AskPostS K w B t x g 4 ⟨#[]⟩ C) := by
  obtain ⟨w0, hw0⟩ : ∃ w0, w.alloc (.cells #[.int .i64 a, .int .i64 i] 37) = w0 := ⟨_, rfl⟩
  have B0 : Below w.heap.size w w0 := by rw [← hw0]; exact below_box _ _
  have kb : w0.heap[w.heap.size]? = some (.cells #[.int .i64 a, .int .i64 i] 37) := by rw [← hw0]; exact (MapKept.heap_alloc w _).1
  have m0 := Mv.of_below B0 K (fun _ => t + 9)
  have h0 := h.mv m0 id id id
  obtain ⟨A0, hA⟩ : ∃ A0, w.heap.size = A0 := ⟨_, rfl⟩
  rw [hA] at kb
  have k0 : w0.cell? ⟨A0, 0, none⟩ = some (.int .i64 a) := by unfold World.cell?; rw [kb]; rfl
  have k1 : w0.cell? ⟨A0, 1, none⟩ = some (.int .i64 i) := by unfold World.cell?; rw [kb]; rfl
  have HE : Hid (AskPostS K w B t x g 4 ⟨#[]⟩ C (.returned (.tuple #[.int .i64 4, .string ⟨#[]⟩])) w0) := ⟨rfl, _, _, _, _, _, h0, rel, m0.mono (fun _ h => h.elim)⟩
  clear h h0 m0 B0 kb rel
  generalize AskPostS K w B t x g 4 ⟨#[]⟩ C = PO at *
  by_cases c0 : a < 1
  · have d0 : decide (a < 1) = true := by simpa using c0
    clear c0
    go_enter Try.func21, Try.ntmps21
    go_wp2
    exact HE.out
  have d0 : decide (a < 1) = false := by simpa using c0
  by_cases c1 : 16777215 < a
  · have d1 : decide (16777215 < a) = true := by simpa using c1
    clear c0 c1
    go_enter Try.func21, Try.ntmps21
    go_wp2
    exact HE.out
  have d1 : decide (16777215 < a) = false := by simpa using c1
  by_cases c2 : i < 1
  · have d2 : decide (i < 1) = true := by simpa using c2
    clear c0 c1 c2
    go_enter Try.func21, Try.ntmps21
    go_wp2
    exact HE.out
  have d2 : decide (i < 1) = false := by simpa using c2
  by_cases c3 : 4611686018427387904 < i
  · have d3 : decide (4611686018427387904 < i) = true := by simpa using c3
    clear c0 c1 c2 c3
    go_enter Try.func21, Try.ntmps21
    go_wp2
    exact HE.out
  have d3 : decide (4611686018427387904 < i) = false := by simpa using c3
  by_cases c4 : seq < 1
  · have d4 : decide (seq < 1) = true := by simpa using c4
    clear c0 c1 c2 c3 c4
    go_enter Try.func21, Try.ntmps21
    go_wp2
    exact HE.out
  have d4 : decide (seq < 1) = false := by simpa using c4
  by_cases c5 : 4294967295 < seq
  · have d5 : decide (4294967295 < seq) = true := by simpa using c5
    clear c0 c1 c2 c3 c4 c5
    go_enter Try.func21, Try.ntmps21
    go_wp2
    exact HE.out
  have d5 : decide (4294967295 < seq) = false := by simpa using c5
  by_cases c6 : water < 1
  · have d6 : decide (water < 1) = true := by simpa using c6
    clear c0 c1 c2 c3 c4 c5 c6
    go_enter Try.func21, Try.ntmps21
    go_wp2
    exact HE.out
  have d6 : decide (water < 1) = false := by simpa using c6
  by_cases c7 : 4294967295 < water
  · have d7 : decide (4294967295 < water) = true := by simpa using c7
    clear c0 c1 c2 c3 c4 c5 c6 c7
    go_enter Try.func21, Try.ntmps21
    go_wp2
    exact HE.out
  have d7 : decide (4294967295 < water) = false := by simpa using c7
  exfalso
  refine hb ?_
  simp [inB]
  omega
/-- what holds of numbers that may be -/
structure Vd (a i seq water : Int) : Prop where
  d0 : decide (a < 1) = false
  d1 : decide (16777215 < a) = false
  d2 : decide (i < 1) = false
  d3 : decide (4611686018427387904 < i) = false
  d4 : decide (seq < 1) = false
  d5 : decide (4294967295 < seq) = false
  d6 : decide (water < 1) = false
  d7 : decide (4294967295 < water) = false
theorem Vd.of (ha : inB a 1 16777215 = true) (hi : inB i 1 4611686018427387904 = true) (hs : inB seq 1 4294967295 = true) (hw : inB water 1 4294967295 = true) : Vd a i seq water := by
  have h1 := inB_is ha; have h2 := inB_is hi; have h3 := inB_is hs; have h4 := inB_is hw
  refine ⟨?_, ?_, ?_, ?_, ?_, ?_, ?_, ?_⟩ <;> simp <;> omega
theorem rel_small {C : List Cl} {L : List Kn} {I : List Sn} (h : REL C L I) (st : StOk g C) (hg : CfOk g) : L.length ≤ 64 ∧ I.length ≤ 4096 := by
  have h1 := st.len; have h2 := hg.c; have h3 := hg.e
  have h4 := rel_len C I st.who h.i h.w
  have h5 := sumC_le (f := fun c => c.ents.length) (k := 64) (C := C) fun c hc => by have := (st.cl c hc).len; show c.ents.length ≤ 64; omega
  have h6 : C.length * 64 ≤ 64 * 64 := Nat.mul_le_mul_right _ (by omega)
  refine ⟨by rw [h.l]; simp; omega, by omega⟩
set_option maxRecDepth 4000 in
/-- of a stranger: up to the question of room -/
theorem dask_oldU (h : DC K w B t x g v1 v2 L I) (rel : REL C L I) (st : StOk g C) (hg : CfOk g) (hv : Vd a i seq water) (hn : ∀ c ∈ C, ¬ c.is a i) (hs : seq < water) :
    Calls Try.prog 21 #[ptr x, whoV a i, .int .i64 seq, .int .i64 water] w (AskPostS K w B t x g 4 ⟨#[]⟩ C) := by
  obtain ⟨w0, hw0⟩ : ∃ w0, w.alloc (.cells #[.int .i64 a, .int .i64 i] 37) = w0 := ⟨_, rfl⟩
  have B0 : Below w.heap.size w w0 := by rw [← hw0]; exact below_box _ _
  have kb : w0.heap[w.heap.size]? = some (.cells #[.int .i64 a, .int .i64 i] 37) := by rw [← hw0]; exact (MapKept.heap_alloc w _).1
  have m0 := Mv.of_below B0 K (fun _ => t + 9)
  have h0 := h.mv m0 id id id
  obtain ⟨A0, hA⟩ : ∃ A0, w.heap.size = A0 := ⟨_, rfl⟩
  rw [hA] at kb
  have k0 : w0.cell? ⟨A0, 0, none⟩ = some (.int .i64 a) := by unfold World.cell?; rw [kb]; rfl
  have k1 : w0.cell? ⟨A0, 1, none⟩ = some (.int .i64 i) := by unfold World.cell?; rw [kb]; rfl
  obtain ⟨d0, d1, d2, d3, d4, d5, d6, d7⟩ := hv
  have sm := rel_small rel st hg
  have HC := hid (client_any h0 (by omega) a i)
  have HH := hid (And.intro h0 m0)
  have HR := hid (And.intro rel hn)
  have dsw : decide (seq < water) = true := by simpa using hs
  clear h h0 m0 B0 kb rel st hg sm hn hs
  generalize hPO : AskPostS K w B t x g 4 ⟨#[]⟩ C = PO
  have HPO := hid hPO
  clear hPO
  go_enter Try.func21, Try.ntmps21
  go_wp2_with fail
  refine HC.out.mono ?_
  rintro _ w1 ⟨v, rfl, hf, hb1⟩
  obtain rfl := rel_stranger HR.out.1 HR.out.2 hf
  have m1 := Mv.of_below hb1 (ext w K (fun _ => t + 9)) (fun _ => t + 9)
  have HE : Hid (PO (.returned (.tuple #[.int .i64 4, .string ⟨#[]⟩])) w1) := by
    rw [← HPO.out]
    exact ⟨rfl, _, _, _, _, _, HH.out.1.mv m1 id id id, HR.out.1, (HH.out.2.trans m1).mono (fun _ h => h.elim)⟩
  clear hf hb1 m1
  go_wp2
  exact HE.out
end
end Go.Proofs.Ytnpffhgmakbdnaa
