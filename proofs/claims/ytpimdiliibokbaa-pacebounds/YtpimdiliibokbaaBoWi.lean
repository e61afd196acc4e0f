/- PaceBounds: its walk. -/
import Derived.Test.YtpimdiliibokbaaBoWh
namespace Go.Proofs.Ytpimdiliibokbaa
open Go.RowKit Ieee
theorem max32 (w : World) (ty : TypeId) {y D : Nat} (hy : y ≤ 2139095040) (hD : D ≤ 2139095040) : (Builtin.max_ #[34, 34] ty #[.float .f32 y, .float .f32 D]).run Try.prog w = .ok (.float .f32 (max y D)) w := by
  have ho := ord32 y D hy hD
  have hn : (FloatKind.f32.decode y).neg = false := by
    show (single.read y).neg = false
    rcases Nat.lt_or_ge y 2139095040 with h | h
    · have := Fl.read_number single false y (by rw [Fl.inf32]; exact h)
      rw [Fl.word_false] at this
      rw [this]; rfl
    · have : y = 2139095040 := by omega
      subst this
      decide
  rcases Nat.lt_trichotomy y D with q | q | q
  · rw [Nat.compare_eq_lt.2 q] at ho
    simp [Builtin.max_, Builtin.max2, ho, Nat.max_eq_right (Nat.le_of_lt q)]
  · rw [Nat.compare_eq_eq.2 q] at ho
    subst q
    simp [Builtin.max_, Builtin.max2, ho, hn]
  · rw [Nat.compare_eq_gt.2 q] at ho
    simp [Builtin.max_, Builtin.max2, ho, Nat.max_eq_left (Nat.le_of_lt q)]
/-- all that is asked behind a step -/
structure BA (a b L M F y G : Nat) : Prop where
  o1 : (FloatKind.f32.format.order a (Fl.fI L) == some .lt) = false
  o2 : (FloatKind.f32.format.order a (Fl.fI M) == some .gt) = false
  o3 : (FloatKind.f32.format.order b 0 == some .lt) = false
  o4 : (FloatKind.f32.format.order b (max y (Fl.fI (M - L))) == some .gt) = false
  o5 : (FloatKind.f32.format.order (Fl.fI G) a == some .lt) = false
  g : gsP a b = (G : Int)
  gt : G ≤ 1048576
theorem BI.asks {a b L M F y : Nat} (h : BI a b L M F y) : ∃ G, BA a b L M F y G := by
  obtain ⟨G, g1, g2, g3⟩ := guess_ge h.at h.bt
  have ha := h.at
  have hb := h.bt
  have hm := h.mt
  have hl := h.lm
  have tL := fI_top (n := L) (by omega)
  have tM := fI_top (n := M) (by omega)
  have tG := fI_top (n := G) (by omega)
  have tD := fI_top (n := M - L) (by omega)
  have ty := h.yt
  refine ⟨G, ?_, ?_, ?_, ?_, ?_, g1, g2⟩
  · rw [lt32 (by omega) (by omega)]; have := h.lo; simp; omega
  · rw [gt32 (by omega) (by omega)]; have := h.hi; simp; omega
  · rw [lt32 (by omega) (by omega)]; simp
  · rw [gt32 (by omega) (by omega)]; have := h.sp; simp only [decide_eq_false_iff_not]; omega
  · rw [lt32 (by omega) (by omega)]; simp; omega
structure BS (W w : World) (A : Nat) (h : Bool) (a b : Nat) : Prop where
  be : Below W.heap.size W w
  m : Mt w 46 A h a b
  le : W.heap.size ≤ A
  sz : W.heap.size ≤ w.heap.size
theorem BS.own {W w w' : World} {A : Nat} {h h' : Bool} {a b a' b' : Nat} (s : BS W w A h a b) (m : Mt w' 46 A h' a' b') (o : Own A w w') : BS W w' A h' a' b' := ⟨o.below s.be s.le s.sz, m, s.le, Nat.le_trans s.sz o.size⟩
set_option maxHeartbeats 4000000 in
set_option maxRecDepth 8000 in
theorem bounds_any (oS : Option Addr) (sb off len cap : Nat) (V : Nat → Int) (w : World) (hoa : 0 < len → oS = some ⟨sb, off, none⟩) (hv : IntsAt w sb off len V) (hlen : len ≤ 140737488355328) :
    Calls Try.prog 6 #[.slice oS len cap] w fun e w' => e = .returned (.bool true) ∧ Below w.heap.size w w' := by
  have HL := hid hlen
  have HV := hid hv
  have HA := hid hoa
  clear hlen hv hoa
  go_enter Try.func6, Try.ntmps6
  go_wp2_with fail
  refine (awake_any w).mono ?_
  rintro _ w1 ⟨rfl, e1⟩
  have HB1 := hid e1
  clear e1
  go_wp2_with fail
  refine (newMeter_any w1).mono ?_
  rintro _ w2 ⟨rfl, m2, e2⟩
  obtain ⟨A, hA⟩ : ∃ A, w1.heap.size = A := ⟨_, rfl⟩
  have HS2 : Hid (BS w w2 A false 0 0) := by
    have e1 := HB1.out
    have s1 := e1.size
    have s2 := e2.size
    rw [hA] at m2
    exact ⟨e1.trans (e2.mono s1), m2, by omega, by omega⟩
  rw [hA]
  clear m2 e2 HB1 hA
  have z1 : (FloatKind.f32.format.order 0 0 != some .eq) = false := by decide
  go_wp2_with fail
  refine (mean_any HS2.out.m).mono ?_
  rintro _ w' ⟨rfl, hw'⟩
  subst hw'
  go_wp2_with fail
  refine (spread_any HS2.out.m).mono ?_
  rintro _ w'' ⟨rfl, hw'⟩
  subst hw'
  go_wp2_with fail
  refine (guess_any HS2.out.m (by omega) (by omega)).mono ?_
  rintro _ w3 ⟨rfl, hw'⟩
  subst hw'
  rw [show gsP 0 0 = 0 by unfold gsP; rw [Fl.ups_zero]; rfl]
  clear z1
  go_wp2_with fail
  go_loopw [5, 6, 7, 8] (fun u5 u6 u7 u8 wr => ∃ (i : Nat) (h : Bool) (a b L M F y : Nat), u8 = .int .i64 i ∧ u5 = .int .i64 (L : Nat) ∧ u6 = .int .i64 (M : Nat) ∧ u7 = .int .i64 (F : Nat) ∧ i ≤ len ∧ BS w wr A h a b ∧ ((i = 0 ∧ h = false) ∨ (0 < i ∧ h = true ∧ BI a b L M F y))) (fun _ _ _ u8 _ => len - (intOf u8).toNat)
  case atStart => exact ⟨0, false, 0, 0, 0, 0, 0, 0, rfl, rfl, rfl, rfl, Nat.zero_le _, HS2.out, .inl ⟨rfl, rfl⟩⟩
  case round =>
    obtain ⟨i, h, a, b, L, M, F, y, rfl, rfl, rfl, rfl, hi, hs, hc⟩ := hrel
    obtain ⟨wo, hwo⟩ : ∃ wo, wo = wr := ⟨_, rfl⟩
    subst hwo
    have HS := hid hs
    have HC := hid hc
    clear hs hc HS2
    by_cases hlt : i < len
    · have hi' : (i : Int) < (len : Int) := by omega
      have hoa2 := HA.out (by omega)
      subst hoa2
      have hwi : wrap64 ((i : Int) + 1) = (i : Int) + 1 := by have h1 := HL.out; unfold wrap64; omega
      obtain ⟨n, hn⟩ : ∃ n, V i = n := ⟨_, rfl⟩
      have t0 : wo.cell? ⟨sb, off + i, none⟩ = some (.int .i64 n) := by rw [← hn]; exact (HV.out.below HS.out.be).c i hlt
      obtain ⟨MM, hM⟩ : ∃ MM : Int, (if n < 0 then (0 : Int) else n) = MM := ⟨_, rfl⟩
      obtain ⟨X, hX⟩ : ∃ X : Int, (if 1048576 < MM then (1048576 : Int) else MM) = X := ⟨_, rfl⟩
      have HCL : Hid (((clamp n : Nat) : Int) = X) := by show _ = _; unfold clamp; omega
      clear hn
      rcases HC.out with ⟨hi0, hh⟩ | ⟨hi0, hh, hb⟩
      · subst hh
        have HI0 := hid hi0
        have hz : ((i : Int) == 0) = true := by simp [hi0]
        obtain ⟨y, hy, hBI⟩ := bi_first n
        have HBI := hid hBI
        have HQ := hid (hear_first HS.out.m n hy)
        clear hy hBI HC
        obtain ⟨x, hx⟩ : ∃ x, clamp n = x := ⟨_, rfl⟩
        rw [hx] at HBI HQ HCL
        clear hx hi0
        go_wp2_with fail
        refine HQ.out.mono ?_
        rintro _ w4 ⟨rfl, m4, o4'⟩
        have HE := hid (HS.out.own m4 o4')
        clear m4 o4' HQ HS t0
        obtain ⟨G, hG⟩ := HBI.out.asks
        have HG := hid hG
        have hm := HBI.out.mt
        have hl := HBI.out.lm
        have hf := HBI.out.ft
        have cL := Fl.ofI x (by omega)
        have cM := Fl.ofI x (by omega)
        have cF := Fl.ofI x (by omega)
        have cD := Fl.ofI (x - x) (by omega)
        have cG := Fl.ofI G (by have := HG.out.gt; omega)
        have qd := fdiv HBI.out.hy
        have qm : ∀ w ty, _ := fun w ty => max32 w ty (y := y) (D := Fl.fI (x - x)) (by have := HBI.out.yt; omega) (by have := fI_top (n := x - x) (by omega); omega)
        have o1 := HG.out.o1
        have o2 := HG.out.o2
        have o3 := HG.out.o3
        have o4 := HG.out.o4
        have o5 := HG.out.o5
        obtain ⟨GI, hGI⟩ : ∃ GI : Int, (G : Int) = GI := ⟨_, rfl⟩
        obtain ⟨DI, hDI⟩ : ∃ DI : Int, ((x - x : Nat) : Int) = DI := ⟨_, rfl⟩
        have d6 : decide ((1048576 : Int) < GI) = false := by have := HG.out.gt; simp; omega
        have wd : wrap64 (X - X) = DI := by unfold wrap64; omega
        have HGU := hid (guess_any HE.out.m HBI.out.at HBI.out.bt)
        rw [HG.out.g, hGI] at HGU
        rw [hGI] at cG
        rw [hDI] at cD
        rw [HCL.out] at cL
        rw [HCL.out] at cM
        rw [HCL.out] at cF
        have hd0 : DI = 0 := by omega
        subst hd0
        clear wd
        generalize Fl.fI (x - x) = fD at *
        generalize Fl.fI G = fG at *
        generalize max y fD = wide at *
        clear hm hl hf hG hGI hDI HG
        go_wp2_with fail
        refine (mean_any HE.out.m).mono ?_
        rintro _ w' ⟨rfl, hw'⟩
        subst hw'
        go_wp2_with fail
        refine (spread_any HE.out.m).mono ?_
        rintro _ w'' ⟨rfl, hw'⟩
        subst hw'
        go_wp2_with fail
        refine HGU.out.mono ?_
        rintro _ w3 ⟨rfl, hw'⟩
        subst hw'
        go_wp2
        go_roundw
        case rel => exact ⟨i + 1, true, _, _, _, _, _, y, by first | (rw [hwi]; rfl) | rfl, by rw [HCL.out], by rw [HCL.out], by rw [HCL.out], hlt, HE.out, .inr ⟨by omega, rfl, HBI.out⟩⟩
        case measure => first | exact meas hwi hi' | exact meas rfl hi'

      · subst hh
        have HI0 := hid hi0
        have hz : ((i : Int) == 0) = false := by simp; omega
        obtain ⟨a', b', hq, hBI⟩ := bi_next hb n
        have HBI := hid hBI
        have HQ := hid (hq wo A HS.out.m)
        clear hBI HC hq hb
        obtain ⟨x, hx⟩ : ∃ x, clamp n = x := ⟨_, rfl⟩
        rw [hx] at HBI HCL
        obtain ⟨L', hL'⟩ : ∃ L', min L x = L' := ⟨_, rfl⟩
        obtain ⟨M', hM'⟩ : ∃ M', max M x = M' := ⟨_, rfl⟩
        obtain ⟨LI, hLI⟩ : ∃ LI : Int, (L : Int) = LI := ⟨_, rfl⟩
        obtain ⟨MI, hMI⟩ : ∃ MI : Int, (M : Int) = MI := ⟨_, rfl⟩
        obtain ⟨FI, hFI⟩ : ∃ FI : Int, (F : Int) = FI := ⟨_, rfl⟩
        obtain ⟨LJ, hLJ⟩ : ∃ LJ : Int, (L' : Int) = LJ := ⟨_, rfl⟩
        obtain ⟨MJ, hMJ⟩ : ∃ MJ : Int, (M' : Int) = MJ := ⟨_, rfl⟩
        have gL : (if X < LI then X else LI) = LJ := by have := HCL.out; omega
        have gM : (if MI < X then X else MI) = MJ := by have := HCL.out; omega
        rw [hL', hM'] at HBI
        rw [hLI, hMI, hFI]
        have HJ := hid (And.intro hLJ (And.intro hMJ hFI))
        clear hx hi0 hL' hM' hLI hMI hLJ hMJ hFI
        go_wp2_with fail
        refine HQ.out.mono ?_
        rintro _ w4 ⟨rfl, m4, o4'⟩
        have HE := hid (HS.out.own m4 o4')
        clear m4 o4' HQ HS t0
        obtain ⟨G, hG⟩ := HBI.out.asks
        have HG := hid hG
        have hm := HBI.out.mt
        have hl := HBI.out.lm
        have hf := HBI.out.ft
        have cL := Fl.ofI L' (by omega)
        have cM := Fl.ofI M' (by omega)
        have cF := Fl.ofI F (by omega)
        have cD := Fl.ofI (M' - L') (by omega)
        have cG := Fl.ofI G (by have := HG.out.gt; omega)
        have qd := fdiv HBI.out.hy
        have qm : ∀ w ty, _ := fun w ty => max32 w ty (y := y) (D := Fl.fI (M' - L')) (by have := HBI.out.yt; omega) (by have := fI_top (n := M' - L') (by omega); omega)
        have o1 := HG.out.o1
        have o2 := HG.out.o2
        have o3 := HG.out.o3
        have o4 := HG.out.o4
        have o5 := HG.out.o5
        obtain ⟨GI, hGI⟩ : ∃ GI : Int, (G : Int) = GI := ⟨_, rfl⟩
        obtain ⟨DI, hDI⟩ : ∃ DI : Int, ((M' - L' : Nat) : Int) = DI := ⟨_, rfl⟩
        have d6 : decide ((1048576 : Int) < GI) = false := by have := HG.out.gt; simp; omega
        have wd : wrap64 (MJ - LJ) = DI := by have := HJ.out; unfold wrap64; omega
        have HGU := hid (guess_any HE.out.m HBI.out.at HBI.out.bt)
        rw [HG.out.g, hGI] at HGU
        rw [hGI] at cG
        rw [hDI] at cD
        rw [HJ.out.1] at cL
        rw [HJ.out.2.1] at cM
        rw [HJ.out.2.2] at cF
        generalize Fl.fI (M' - L') = fD at *
        generalize Fl.fI G = fG at *
        generalize max y fD = wide at *
        clear hm hl hf hG hGI hDI HG
        go_wp2_with fail
        refine (mean_any HE.out.m).mono ?_
        rintro _ w' ⟨rfl, hw'⟩
        subst hw'
        go_wp2_with fail
        refine (spread_any HE.out.m).mono ?_
        rintro _ w'' ⟨rfl, hw'⟩
        subst hw'
        go_wp2_with fail
        refine HGU.out.mono ?_
        rintro _ w3 ⟨rfl, hw'⟩
        subst hw'
        go_wp2
        go_roundw
        case rel => exact ⟨i + 1, true, _, _, _, _, _, y, by first | (rw [hwi]; rfl) | rfl, by rw [HJ.out.1]; first | done | rfl, by rw [HJ.out.2.1]; first | done | rfl, by rw [HJ.out.2.2], hlt, HE.out, .inr ⟨by omega, rfl, HBI.out⟩⟩
        case measure => first | exact meas hwi hi' | exact meas rfl hi'

    · obtain rfl : i = len := by omega
      have HE := hid HS.out.be
      clear HS HC
      go_wp2
      go_ret
      exact ⟨rfl, HE.out⟩
end Go.Proofs.Ytpimdiliibokbaa
