/- Services: Run; the law's first calls. -/
import Derived.Test.YtcpjihaicmlmjaaPSp
import Derived.Test.YtcpjihaicmlmjaaPSr
namespace Go.Proofs.Ytcpjihaicmlmjaa
open Go.RowKit
attribute [local go_sem] run_store_func run_store_nilFunc
abbrev noB : ByteArray := ⟨#[]⟩
def ranP (f c : Int) (a : List UInt8) : Int × ByteArray := if ¬ f = 0 then (f, noB) else if c = 0 then (nullP a, noB) else toldP (handledP c a).1 (handledP c a).2
theorem found_some {L : List Sv} {p v c : Int} (h : (findP L p v c).1 = 0) : ∃ s, L.find? (isIt p v) = some s := by
  unfold findP at h
  split at h
  · simp at h
  · cases hr : L.find? (isIt p v) with
    | none => rw [hr] at h; simp [foundP] at h
    | some s => exact ⟨s, rfl⟩
set_option maxRecDepth 8000 in
set_option maxHeartbeats 1000000 in
theorem run_any {K : Nat → Nat} {w : World} {t b : Nat} {oa : Option Addr} {cap : Nat} {L : List Sv} (h : PR K w t b oa cap L) (p v c : Int) (a : List UInt8) (hl : a.length ≤ 281474976710656) :
    Calls Try.prog 11 #[ptr b, .int .i64 p, .int .i64 v, .int .i64 c, .string ⟨a.toArray⟩] w fun e w' => e = .returned (tup (ranP (findP L p v c).1 c a)) ∧ Below w.heap.size w w' := by
  have H0 := hid h
  have HF := hid (find_any h p v c)
  have HS0 : Hid ((findP L p v c).1 = 0 → ∃ s, L.find? (isIt p v) = some s) := found_some
  obtain ⟨⟨f, g1, g2⟩, hf⟩ : ∃ f, findP L p v c = f := ⟨_, rfl⟩
  rw [hf] at HF HS0 ⊢
  simp only [] at HS0 ⊢
  have HD := hid (fun w => doNothing_any a w)
  have HH := hid (fun s w => handle_any s c a hl w)
  have HT := hid (fun w => trusted_any (handledP c a).1 (handledP c a).2 w)
  obtain ⟨R, hR⟩ : ∃ R, ranP f c a = R := ⟨_, rfl⟩
  have HRR := hid hR
  rw [hR]
  unfold ranP at HRR
  generalize handledP c a = hp at *
  generalize (⟨a.toArray⟩ : ByteArray) = A at *
  clear h hf hR hl
  go_enter Try.func11, Try.ntmps11
  go_wp2_with fail
  refine HF.out.mono ?_
  rintro _ w1 ⟨rfl, hb1⟩
  have HB1 := hid hb1
  have HP1 := hid (H0.out.below hb1 (fun _ => 5))
  clear hb1 HF
  by_cases hf0 : f = 0
  · subst hf0
    rw [if_neg (by simp)] at HRR
    by_cases hc0 : c = 0
    · subst hc0
      rw [if_pos rfl] at HRR
      have hR : (nullP a, noB) = R := HRR.out
      subst hR
      go_wp2_with fail
      refine (HD.out _).mono ?_
      rintro _ w2 ⟨rfl, hw2⟩
      have HB2 : Hid (Below w.heap.size w w2) := by rw [hw2]; exact HB1.out
      clear hw2
      go_wp2
      go_ret2
      exact ⟨rfl, HB2.out⟩
    · rw [if_neg hc0] at HRR
      have hR : toldP hp.1 hp.2 = R := HRR.out
      subst hR
      obtain ⟨s, hs⟩ := HS0.out rfl
      have HS := hid (service_any HP1.out p v)
      rw [hs] at HS
      clear hs HRR
      go_wp2_with fail
      refine HS.out.mono ?_
      rintro _ w2 ⟨rfl, hb2⟩
      have HB2 := hid (HB1.out.trans (hb2.mono HB1.out.size))
      clear hb2 HS
      obtain ⟨S1, hS1⟩ : ∃ S1, w2.heap.size = S1 := ⟨_, rfl⟩
      obtain ⟨u1, u2, u3, u4, u5, ⟨e1, e2, e3, e4, e5⟩, ⟨x10, x11, x12, x13, x21, x22, x23, x32, x33, x43⟩, ⟨f1, f2, f3, f4⟩, k5, b5, s5⟩ := box4 w2 48 (.int .i64 0) (.int .i64 0) (.slice none 0 0) .nilFunc (.int .i64 s.prog) (.int .i64 s.vers) (.slice s.oa s.procs.length s.cap) hd S1 hS1
      have HB5 := hid (HB2.out.trans (b5.mono HB2.out.size))
      have y0 : u5.cell? ⟨S1, 0, none⟩ = some (.int .i64 s.prog) := by unfold World.cell?; rw [k5]; rfl
      have y1 : u5.cell? ⟨S1, 1, none⟩ = some (.int .i64 s.vers) := by unfold World.cell?; rw [k5]; rfl
      have y2 : u5.cell? ⟨S1, 2, none⟩ = some (.slice s.oa s.procs.length s.cap) := by unfold World.cell?; rw [k5]; rfl
      have y3 : u5.cell? ⟨S1, 3, none⟩ = some hd := by unfold World.cell?; rw [k5]; rfl
      clear b5 k5 s5
      unfold svcV
      go_wp2_with fail
      refine (HH.out s _).mono ?_
      rintro _ w6 ⟨rfl, hb6⟩
      have HB6 := hid (HB5.out.trans (hb6.mono HB5.out.size))
      clear hb6 HH
      go_wp2_with fail
      refine (HT.out _).mono ?_
      rintro _ w7 ⟨rfl, hb7⟩
      have HB7 := hid (HB6.out.trans (hb7.mono HB6.out.size))
      clear hb7 HT
      go_wp2
      go_ret2
      exact ⟨rfl, HB7.out⟩
  · rw [if_pos hf0] at HRR
    have hR : (f, noB) = R := HRR.out
    subst hR
    go_wp2
    go_ret2
    exact ⟨rfl, HB1.out⟩
theorem PR.new (K : Nat → Nat) (w : World) (t : Nat) : PR (ext w K (fun _ => t)) (w.alloc (.cells #[.slice none 0 0] 52)) t w.heap.size none 0 [] :=
  ⟨TB.new w K _ _ rfl, RW.nil _ _ _ _ _ _ _, fun s hs => by simp at hs, fun s hs => by simp at hs, by simp⟩
theorem bls2 (w : World) (x y : Int) : (Instr.buildSlice 32 2 #[(0, .int .i64 x), (1, .int .i64 y)]).run Try.prog w = .ok (.slice (some ⟨w.heap.size, 0, none⟩) 2 2) (w.alloc (.cells #[.int .i64 x, .int .i64 y] 3)) := by kernel_rfl
theorem gs2 {w w' : World} {S : Nat} {x y : Int} (hS : w.heap.size = S) (hw : w.alloc (.cells #[.int .i64 x, .int .i64 y] 3) = w') : GsAt w' w'.heap.size (some ⟨S, 0, none⟩) [x, y] := fun _ => by
  have k : w'.heap[S]? = some (.cells #[.int .i64 x, .int .i64 y] 3) := by rw [← hw, ← hS]; exact (MapKept.heap_alloc w _).1
  refine ⟨S, 0, rfl, (Array.getElem?_eq_some_iff.1 k).1, fun i hi => ?_⟩
  unfold World.cell?
  rw [k]
  match i, hi with
  | 0, _ => rfl
  | 1, _ => rfl
end Go.Proofs.Ytcpjihaicmlmjaa
