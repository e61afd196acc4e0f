/- Services: Find. -/
import Derived.Test.YtcpjihaicmlmjaaPSm
import Derived.Test.YtcpjihaicmlmjaaPSd
namespace Go.Proofs.Ytcpjihaicmlmjaa
open Go.RowKit
attribute [local go_sem] run_store_func run_store_nilFunc
def foundP (vs : List Int) (c : Int) : Option Sv → Int × Int × Int
  | none => (2, minL vs, maxL vs)
  | some s => if hasP s.procs c = true then (0, 0, 0) else (3, 0, 0)
def findP (L : List Sv) (p v c : Int) : Int × Int × Int := if (vsP p L).length = 0 then (1, 0, 0) else foundP (vsP p L) c (L.find? (isIt p v))
abbrev tup3 (r : Int × Int × Int) : Value := .tuple #[.int .i64 r.1, .int .i64 r.2.1, .int .i64 r.2.2]
theorem GsN.at_ {w : World} {lo : Nat} {oa : Option Addr} {gs : List Int} (h : GsN w lo oa gs) : GsAt w w.heap.size oa gs := fun h0 => by
  obtain ⟨q, off, e1, e2, e3, e4⟩ := h h0
  exact ⟨q, off, e1, e3, e4⟩
set_option maxRecDepth 8000 in
set_option maxHeartbeats 1000000 in
theorem find_any {K : Nat → Nat} {w : World} {t b : Nat} {oa : Option Addr} {cap : Nat} {L : List Sv} (h : PR K w t b oa cap L) (p v c : Int) :
    Calls Try.prog 9 #[ptr b, .int .i64 p, .int .i64 v, .int .i64 c] w fun e w' => e = .returned (tup3 (findP L p v c)) ∧ Below w.heap.size w w' := by
  have H0 := hid h
  have HV := hid (versions_any h p)
  unfold findP
  obtain ⟨vs, hvs⟩ : ∃ vs, vsP p L = vs := ⟨_, rfl⟩
  have HVS := hid hvs
  rw [hvs] at HV ⊢
  obtain ⟨m, hm⟩ : ∃ m, vs.length = m := ⟨_, rfl⟩
  have HMV := hid hm
  rw [hm] at HV ⊢
  have HLE : Hid (m ≤ 16) := by
    show m ≤ 16
    rw [← hm, ← hvs]
    exact Nat.le_trans (vs_len p L) h.most
  obtain ⟨R, hR⟩ : ∃ R, (if m = 0 then (1, 0, 0) else foundP vs c (L.find? (isIt p v))) = R := ⟨_, rfl⟩
  have HRR := hid hR
  rw [hR]
  clear h hvs hm hR
  go_enter Try.func9, Try.ntmps9
  go_wp2_with fail
  refine HV.out.mono ?_
  rintro _ w1 ⟨ob, c1, rfl, hg1, hb1⟩
  have HG1 := hid hg1
  have HB1 := hid hb1
  have HP1 := hid (H0.out.below hb1 (fun _ => 5))
  clear hg1 hb1 HV
  by_cases hm0 : m = 0
  · subst hm0
    have hR : (1, 0, 0) = R := by rw [← HRR.out, if_pos rfl]
    subst hR
    go_wp2
    go_ret3
    exact ⟨rfl, HB1.out⟩
  · rw [if_neg hm0] at HRR
    have hmi : ¬ (m : Int) = 0 := by omega
    have HS := hid (service_any HP1.out p v)
    have HOK : Hid (∀ s, L.find? (isIt p v) = some s → GsT (ext w K (fun _ => 5)) w1 7 s.oa s.procs ∧ okS s) := fun s hs => ⟨HP1.out.gs s (List.mem_of_find?_eq_some hs), HP1.out.ok s (List.mem_of_find?_eq_some hs)⟩
    generalize L.find? (isIt p v) = r at *
    go_wp2_with fail
    refine HS.out.mono ?_
    rintro _ w2 ⟨rfl, hb2⟩
    have HB2 := hid hb2
    have HB02 := hid (HB1.out.trans (hb2.mono HB1.out.size))
    clear hb2 HS
    obtain ⟨S1, hS1⟩ : ∃ S1, w2.heap.size = S1 := ⟨_, rfl⟩
    cases r with
    | none =>
      obtain ⟨u1, u2, u3, u4, u5, ⟨e1, e2, e3, e4, e5⟩, ⟨x10, x11, x12, x13, x21, x22, x23, x32, x33, x43⟩, ⟨f1, f2, f3, f4⟩, k5, b5, s5⟩ := box4 w2 48 (.int .i64 0) (.int .i64 0) (.slice none 0 0) .nilFunc (.int .i64 0) (.int .i64 0) (.slice none 0 0) .nilFunc S1 hS1
      have HB5 := hid (HB02.out.trans (b5.mono HB02.out.size))
      have hgA : GsAt u5 u5.heap.size ob vs := ((((HG1.out.at_).below HB2.out).mono HB2.out.size).below b5).mono b5.size
      have H1 := hid (min_any ob c1 vs u5 hgA (by rw [HMV.out]; omega) (by have := HLE.out; have := HMV.out; omega))
      have H2 := hid (fun w' (hb : Below u5.heap.size u5 w') => max_any ob c1 vs w' ((hgA.below hb).mono hb.size) (by rw [HMV.out]; omega) (by have := HLE.out; have := HMV.out; omega))
      rw [HMV.out] at H1 H2
      clear b5 hgA k5 s5 HOK
      have hR : (2, minL vs, maxL vs) = R := HRR.out
      subst hR
      unfold svcV
      go_wp2_with fail
      refine H1.out.mono ?_
      rintro _ w6 ⟨rfl, hb6⟩
      have HB6 := hid (HB5.out.trans (hb6.mono HB5.out.size))
      have H3 := hid (H2.out _ hb6)
      clear hb6 H1 H2
      go_wp2_with fail
      refine H3.out.mono ?_
      rintro _ w7 ⟨rfl, hb7⟩
      have HB7 := hid (HB6.out.trans (hb7.mono HB6.out.size))
      clear hb7 H3
      go_wp2
      go_ret3
      exact ⟨rfl, HB7.out⟩
    | some s =>
      obtain ⟨u1, u2, u3, u4, u5, ⟨e1, e2, e3, e4, e5⟩, ⟨x10, x11, x12, x13, x21, x22, x23, x32, x33, x43⟩, ⟨f1, f2, f3, f4⟩, k5, b5, s5⟩ := box4 w2 48 (.int .i64 0) (.int .i64 0) (.slice none 0 0) .nilFunc (.int .i64 s.prog) (.int .i64 s.vers) (.slice s.oa s.procs.length s.cap) hd S1 hS1
      have HB5 := hid (HB02.out.trans (b5.mono HB02.out.size))
      have y0 : u5.cell? ⟨S1, 0, none⟩ = some (.int .i64 s.prog) := by unfold World.cell?; rw [k5]; rfl
      have y1 : u5.cell? ⟨S1, 1, none⟩ = some (.int .i64 s.vers) := by unfold World.cell?; rw [k5]; rfl
      have y2 : u5.cell? ⟨S1, 2, none⟩ = some (.slice s.oa s.procs.length s.cap) := by unfold World.cell?; rw [k5]; rfl
      have y3 : u5.cell? ⟨S1, 3, none⟩ = some hd := by unfold World.cell?; rw [k5]; rfl
      have hok := HOK.out s rfl
      have HH := hid (has_any s c u5 (((hok.1.at_.below HB2.out).mono HB2.out.size |>.below b5).mono b5.size) (Nat.le_trans hok.2.2.2.2 (by omega)) hok.2.2.2.1)
      clear b5 k5 s5 HOK hok
      have hR : (if hasP s.procs c = true then (0, 0, 0) else (3, 0, 0)) = R := HRR.out
      have HR2 := hid hR
      clear hR HRR
      unfold svcV
      generalize hasP s.procs c = q at *
      go_wp2_with fail
      refine HH.out.mono ?_
      rintro _ w6 ⟨rfl, hb6⟩
      have HB6 := hid (HB5.out.trans (hb6.mono HB5.out.size))
      clear hb6 HH
      cases q
      · have hR : (3, 0, 0) = R := HR2.out
        subst hR
        go_wp2
        go_ret3
        exact ⟨rfl, HB6.out⟩
      · have hR : (0, 0, 0) = R := HR2.out
        subst hR
        go_wp2
        go_ret3
        exact ⟨rfl, HB6.out⟩
end Go.Proofs.Ytcpjihaicmlmjaa
