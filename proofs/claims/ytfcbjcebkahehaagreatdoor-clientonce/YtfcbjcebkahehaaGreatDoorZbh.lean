/- The client: Waiting; rows of numbers; two rows compared. ClientOnce, plainly: the book of what was issued, and the calls that wait. ClientOnce, plainly: what each step does to the book. -/
import Derived.Test.YtfcbjcebkahehaaGreatDoorJz
import Derived.Test.YtfcbjcebkahehaaGreatDoorKd
namespace Go.Proofs.YtfcbjcebkahehaaGreatDoor.Cl
open Go.RowKit
def intC (n : Int) : List Value := [.int .i64 n]
theorem intL (n : Int) : (intC n).length = 1 := rfl
theorem intO (n : Int) : ∀ u ∈ intC n, u.oneCell' = true := by
  intro u hu
  simp only [intC, List.mem_cons, List.not_mem_nil, or_false] at hu
  subst hu; rfl
theorem info3i : ∃ i z, Tryz.prog.info? 3 = some i ∧ i.zero = some z ∧ i.size = 1 ∧ i.bytes = 8 ∧ z.cells.size = 1 :=
  ⟨(Tryz.prog.info? 3).getD default, .int .i64 0, by kernel_rfl, by kernel_rfl, by kernel_rfl, by kernel_rfl, by kernel_rfl⟩
theorem under24 : Tryz.prog.underlying 24 = some (.slice 3) := by kernel_rfl
theorem bls24n (n : Int) (w : World) : (Instr.buildSlice 24 1 #[(0, .int .i64 n)]).run Tryz.prog w = .ok (.slice (some ⟨w.heap.size, 0, none⟩) 1 1) (w.alloc (.cells #[.int .i64 n] 3)) := by kernel_rfl
theorem app24 {K : Nat → Nat} {w : World} {B t : Nat} {v : Value} {l : List Int} (h : RW 3 1 intC K w B t v l) (hB : B ≤ w.heap.size) {N : Nat} {x : Int} (hb : w.heap[N]? = some (.cells #[.int .i64 x] 3 (0, 0))) (hl : l.length ≤ 100000000) :
    ∃ oa c w' K', (∀ r, (Builtin.append_ #[24, 24] r #[v, .slice (some ⟨N, 0, none⟩) 1 1]).run Tryz.prog w = .ok (.slice oa (l.length + 1) c) w') ∧ RW 3 1 intC K' w' B t (.slice oa (l.length + 1) c) (l ++ [x]) ∧ Mv (fun x => x = t) w w' K K' := by
  obtain ⟨i, z, hi, hz, hs, hby, hzs⟩ := info3i
  obtain ⟨v', w', K', q1, q2, q3⟩ := RW.app (ty := 24) under24 hi hz hs hby hzs (by omega) intL intO h hB (N := N) (x := x) (cs := (intC x).toArray) rfl hb (by omega) (by omega)
  obtain ⟨oa, c, e, _, _⟩ := q2.form
  rw [List.length_append, List.length_singleton] at e
  subst e
  exact ⟨oa, c, w', K', q1, q2, q3⟩
/-- the same, the new thing laid down first -/
theorem app24n {K : Nat → Nat} {w : World} {B t : Nat} {v : Value} {l : List Int} (h : RW 3 1 intC K w B t v l) (hB : B ≤ w.heap.size) (x : Int) (hl : l.length ≤ 100000000) :
    ∃ oa c w' K', (∀ r, (Builtin.append_ #[24, 24] r #[v, .slice (some ⟨w.heap.size, 0, none⟩) 1 1]).run Tryz.prog (w.alloc (.cells #[.int .i64 x] 3)) = .ok (.slice oa (l.length + 1) c) w') ∧ RW 3 1 intC K' w' B t (.slice oa (l.length + 1) c) (l ++ [x]) ∧ Mv (fun x => x = t) w w' K K' := by
  have m := Mv.alloc w K (fun _ => t + 1) (.cells #[.int .i64 x] 3)
  obtain ⟨oa, c, w', K', r, R, m2⟩ := app24 (h.mv m (fun e => e)) (Nat.le_trans hB m.size) (MapKept.heap_alloc w _).1 hl
  exact ⟨oa, c, w', K', r, R, (m.mono (fun _ e => e.elim)).trans m2⟩
section
variable {K K' : Nat → Nat} {w w' : World} {B t p : Nat} {c : Cf} {oa : Option Addr} {cap : Nat} {next now : Int} {L : List Wt} {D : List Oc} {vw vd : Value} {q : Mq}
set_option maxRecDepth 8000 in
set_option maxHeartbeats 4000000 in
theorem PC.waiting_any (h : PC K w B t p c oa cap next now L D vw vd q) (tp : Nat) (htp : t + 8 < tp) (hL : L.length ≤ 100000000) :
    Calls Tryz.prog 36 #[ptr p] w fun e w' => ∃ v, e = .returned v ∧ Hid (∃ K', RW 3 1 intC K' w' B tp v (L.map Wt.seq) ∧ Mv (fun u => u = tp) w w' K K') := by
  have c14 := h.ce (k := 14) rfl
  obtain ⟨o14, c14', ew, _, hg⟩ := h.wr.form
  rw [List.length_map] at ew hg
  subst ew
  obtain ⟨n, hn⟩ : ∃ n, L.length = n := ⟨_, rfl⟩
  rw [hn] at c14
  have HH := hid h
  have HG := hid hg
  have HN := hid hn
  have HB := hid hL
  clear h hg hn hL
  go_enter Tryz.func36, Tryz.ntmps36
  go_wp2_with fail
  go_loopw [11, 3] (fun u11 u3 wr => ∃ (j : Nat) (o : Option Addr) (cp : Nat), u11 = .int .i64 (j : Int) ∧ u3 = .slice o j cp ∧ j ≤ n ∧ Hid (∃ K', RW 3 1 intC K' wr B tp (.slice o j cp) ((L.take j).map Wt.seq) ∧ Mv (fun u => u = tp) w wr K K')) (fun u11 _ _ => n - (intOf u11).toNat)
  case atStart => exact ⟨0, none, 0, rfl, rfl, by omega, K, RW.nil _ _ _ _ _ _ _, Mv.refl _ _ _⟩
  case round =>
    obtain ⟨j, o, cp, rfl, rfl, hjn, HR⟩ := hrel
    clear c14
    obtain ⟨wo, hwo⟩ : ∃ yy, yy = wr := ⟨_, rfl⟩
    subst hwo
    by_cases hj : j < n
    · have hji : (j : Int) < (n : Int) := by omega
      obtain ⟨g, rfl⟩ := HG.out (by have := HN.out; omega)
      obtain ⟨K1, R1, m1⟩ := HR.out
      have P1 := HH.out.toOther m1 htp
      obtain ⟨x, hx⟩ : ∃ x, L[j]? = some x := ⟨_, List.getElem?_eq_getElem (by have := HN.out; omega)⟩
      have xg : wo.cell? ⟨g, j, none⟩ = some (ptr x.b) := by
        have := P1.wr.cell ptrL (by rw [List.length_map]) (j := j) (x := x.b) (by simp [List.getElem?_map, hx]) 0 (by omega)
        simpa [ptrC] using this
      have x0 : wo.cell? ⟨x.b, 0, none⟩ = some (.int .i64 x.seq) := cell_at (P1.cs x (List.mem_of_getElem? hx)).me.at_ rfl
      obtain ⟨N, hN⟩ : ∃ y, wo.heap.size = y := ⟨_, rfl⟩
      obtain ⟨wn, hwn⟩ : ∃ y, wo.alloc (.cells #[.int .i64 x.seq] 3) = y := ⟨_, rfl⟩
      have htk : ((L.take j).map Wt.seq).length = j := by rw [List.length_map, List.length_take, HN.out]; omega
      obtain ⟨o2, cp2, w2, K2, hr, R2, m2⟩ := app24n R1 P1.hB x.seq (by rw [htk]; have := HB.out; rw [HN.out] at this; omega)
      rw [htk, hN, hwn] at hr
      rw [htk] at R2
      have HRun := hid hr
      have HF : Hid (∃ K', RW 3 1 intC K' w2 B tp (.slice o2 (j + 1) cp2) ((L.take (j + 1)).map Wt.seq) ∧ Mv (fun u => u = tp) w w2 K K') := by
        refine ⟨K2, ?_, m1.trans m2⟩
        rw [List.take_add_one, hx]
        simpa using R2
      have hb := fun n w => bls24n n w
      have hj1 : wrap64 ((j : Int) + 1) = (j : Int) + 1 := wrapS (by have := HB.out; rw [HN.out] at this; omega)
      clear P1 R1 m1 hx htk hr R2 m2 HR
      go_wp2_with (at_builtin; refine Hid.out ?_)
      refine (show Hid _ from ?_)
      refine wpList_app rfl _ _ 24 rfl _ _ _ _ rfl rfl (HRun.out _) ?_
      go_wp2
      go_roundw
      case rel => exact ⟨j + 1, o2, cp2, by rw [hj1]; simp, by simp, by omega, HF.out⟩
      case measure => exact meas hj1 hji
    · obtain rfl : j = n := by omega
      have HF : Hid (∃ K', RW 3 1 intC K' wo B tp (.slice o j cp) (L.map Wt.seq) ∧ Mv (fun u => u = tp) w wo K K') := by
        have := HR.out
        rwa [List.take_of_length_le (by rw [HN.out]; omega)] at this
      clear HR
      go_wp2
      go_ret
      exact ⟨_, rfl, HF.out⟩
end
set_option maxRecDepth 8000 in
/-- two rows of numbers compared -/
theorem ints_any {K : Nat → Nat} {w : World} {B t B' t' : Nat} {v v' : Value} {l m : List Int} (h : RW 3 1 intC K w B t v l) (h' : RW 3 1 intC K w B' t' v' m) (hl : l.length ≤ 100000000) :
    Calls Tryz.prog 38 #[v, v'] w fun e w' => e = .returned (.bool (decide (l = m))) ∧ ∃ k, w' = w.drewN k := by
  obtain ⟨o1, c1, rfl, _, hg1⟩ := h.form
  obtain ⟨o2, c2, rfl, _, hg2⟩ := h'.form
  by_cases hlen : l.length = m.length
  case neg =>
    have hd : decide (l = m) = false := decide_eq_false (fun e => hlen (by rw [e]))
    rw [hd]
    obtain ⟨a, ha⟩ : ∃ a, l.length = a := ⟨_, rfl⟩
    obtain ⟨b, hb⟩ : ∃ b, m.length = b := ⟨_, rfl⟩
    have hab : a ≠ b := by rw [← ha, ← hb]; exact hlen
    rw [ha, hb]
    have hne : ((a : Int) != (b : Int)) = true := by rw [bne_iff_ne]; omega
    have hne2 : ((a : Int) == (b : Int)) = false := by rw [beq_eq_false_iff_ne]; omega
    clear h h' hg1 hg2 hl ha hb hd hlen hab
    go_enter Tryz.func38, Tryz.ntmps38
    go_wp2
    go_ret
    exact ⟨rfl, 0, rfl⟩
  obtain ⟨n, hn⟩ : ∃ n, l.length = n := ⟨_, rfl⟩
  have hm : m.length = n := by omega
  have HH : Hid (RW 3 1 intC K w B t (.slice o1 n c1) l ∧ RW 3 1 intC K w B' t' (.slice o2 n c2) m) := ⟨by rw [← hn]; exact h, by rw [← hm]; exact h'⟩
  have HG := hid (And.intro hg1 hg2)
  have HN := hid (And.intro hn hm)
  have HB : Hid (n ≤ 100000000) := by rw [← hn]; exact hl
  rw [hn, hm]
  clear h h' hg1 hg2 hl hlen hn hm
  go_enter Tryz.func38, Tryz.ntmps38
  go_wp2_with fail
  go_loopw [5] (fun u5 wr => ∃ (j : Nat), u5 = .int .i64 (j : Int) ∧ j ≤ n ∧ Hid ((∃ k, wr = w.drewN k) ∧ ∀ i, i < j → l[i]? = m[i]?)) (fun u5 _ => n - (intOf u5).toNat)
  case atStart => exact ⟨0, rfl, by omega, ⟨0, rfl⟩, fun i hi => by omega⟩
  case round =>
    obtain ⟨j, rfl, hjn, HR⟩ := hrel
    obtain ⟨wo, hwo⟩ : ∃ yy, yy = wr := ⟨_, rfl⟩
    subst hwo
    obtain ⟨k, hk⟩ := HR.out.1
    by_cases hj : j < n
    · have hji : (j : Int) < (n : Int) := by omega
      obtain ⟨g1, rfl⟩ := HG.out.1 (by have := HN.out.1; omega)
      obtain ⟨g2, rfl⟩ := HG.out.2 (by have := HN.out.2; omega)
      obtain ⟨x, hx⟩ : ∃ x, l[j]? = some x := ⟨_, List.getElem?_eq_getElem (by have := HN.out.1; omega)⟩
      obtain ⟨y, hy⟩ : ∃ y, m[j]? = some y := ⟨_, List.getElem?_eq_getElem (by have := HN.out.2; omega)⟩
      have e1 : wo.cell? ⟨g1, j, none⟩ = some (.int .i64 x) := by
        have := HH.out.1.cell intL HN.out.1 hx 0 (by omega)
        rw [hk]
        show w.cell? _ = _
        simpa [intC] using this
      have e2 : wo.cell? ⟨g2, j, none⟩ = some (.int .i64 y) := by
        have := HH.out.2.cell intL HN.out.2 hy 0 (by omega)
        rw [hk]
        show w.cell? _ = _
        simpa [intC] using this
      have hj1 : wrap64 ((j : Int) + 1) = (j : Int) + 1 := wrapS (by have := HB.out; omega)
      by_cases hxy : x = y
      · subst hxy
        have HF : Hid (∀ k2, (∃ k, wo.drewN k2 = w.drewN k) ∧ ∀ i, i < j + 1 → l[i]? = m[i]?) := fun k2 => ⟨⟨k + k2, by rw [hk]; simp [World.drewN, Nat.add_assoc]⟩, fun i hi => by
          rcases Nat.lt_or_ge i j with h | h
          · exact HR.out.2 i h
          · obtain rfl : i = j := by omega
            rw [hx, hy]⟩
        clear hx hy HR hk
        go_wp2_with fail
        go_quiet (fail)
        go_wp2
        go_roundw
        case rel => exact ⟨j + 1, by rw [hj1]; simp, by omega, HF.out _⟩
        case measure => exact meas hj1 hji
      · have hne : (x != y) = true := by simpa using hxy
        have HF : Hid (decide (l = m) = false ∧ ∀ k2, ∃ k, wo.drewN k2 = w.drewN k) := ⟨decide_eq_false (fun e => hxy (by rw [e, hy] at hx; exact (Option.some.inj hx).symm)), fun k2 => ⟨k + k2, by rw [hk]; simp [World.drewN, Nat.add_assoc]⟩⟩
        clear hx hy hxy HR hk
        go_wp2_with fail
        go_quiet (fail)
        go_wp2
        go_ret
        exact ⟨by rw [HF.out.1]; rfl, HF.out.2 _⟩
    · obtain rfl : j = n := by omega
      have HF : Hid (decide (l = m) = true ∧ ∃ k, wo = w.drewN k) := ⟨decide_eq_true (List.ext_getElem? fun i => by
        rcases Nat.lt_or_ge i j with h | h
        · exact HR.out.2 i h
        · rw [List.getElem?_eq_none (by rw [HN.out.1]; exact h), List.getElem?_eq_none (by rw [HN.out.2]; exact h)]), HR.out.1⟩
      clear HR hj hk
      go_wp2
      go_ret
      exact ⟨by rw [HF.out.1]; rfl, HF.out.2⟩
end Go.Proofs.YtfcbjcebkahehaaGreatDoor.Cl
namespace Go.Proofs.YtfcbjcebkahehaaGreatDoor.Cl
open Go.RowKit
/-- a config of the law -/
structure OnC (c : Cf) : Prop where
  ad : c.ad = 65537
  inst : c.inst = 5
  first : c.first = 9
  w1 : 1 ≤ c.win
  w2 : c.win ≤ 6
  b1 : 1 ≤ c.pb
  b2 : c.pb ≤ 5
  c1 : c.pb ≤ c.pc
  c2 : c.pc ≤ 24
  t1 : 1 ≤ c.pt
  t2 : c.pt ≤ 5
  sys : c.sys = ⟨0, [], 0, 0, []⟩
theorem sys0_may : SysP.may ⟨0, [], 0, 0, []⟩ := by
  unfold SysP.may
  refine ⟨by decide, by decide, by decide, by decide, by decide, fun g hg => by cases hg⟩
theorem OnC.right {c : Cf} (h : OnC c) : Pc.rightP c.pb c.pc c.pt = true := by
  obtain ⟨_, _, _, _, _, h1, h2, h3, h4, h5, h6, _⟩ := h
  unfold Pc.rightP Pc.inB
  simp only [Bool.and_eq_true, decide_eq_true_eq]
  omega
theorem OnC.ok {c : Cf} (h : OnC c) : okC c = true := by
  have hr := h.right
  have hs := h.sys
  obtain ⟨h1, h2, h3, h4, h5, _⟩ := h
  unfold okC inB
  rw [hr, hs]
  simp only [Bool.and_eq_true, decide_eq_true_eq]
  exact ⟨sys0_may, by omega, by omega, by omega, by omega, trivial⟩
theorem dbl_pos {c : Int} : ∀ k (v : Int), 0 ≤ v → 0 ≤ Pc.dbl c k v
  | 0, v, h => h
  | k + 1, v, h => by
    unfold Pc.dbl
    split
    · exact dbl_pos k _ (by omega)
    · exact h
theorem OnC.wait {c : Cf} (h : OnC c) (n : Int) : 0 ≤ Pc.waitP c.pb c.pc c.pt n ∧ Pc.waitP c.pb c.pc c.pt n ≤ 24 := by
  unfold Pc.waitP
  rw [if_pos h.right]
  have := dbl_pos (c := c.pc) n.toNat c.pb (by have := h.b1; omega)
  have := h.c2
  have := h.c1
  have := h.b1
  omega
theorem totP_le {c : Cf} (h : OnC c) : ∀ k : Nat, 0 ≤ Pc.totP c.pb c.pc c.pt k ∧ Pc.totP c.pb c.pc c.pt k ≤ k * 24
  | 0 => by simp [Pc.totP]
  | k + 1 => by
    have h1 := totP_le h k
    have h2 := h.wait k
    unfold Pc.totP
    omega
theorem OnC.total {c : Cf} (h : OnC c) : 0 ≤ Pc.totalP c.pb c.pc c.pt ∧ Pc.totalP c.pb c.pc c.pt ≤ 120 := by
  unfold Pc.totalP
  rw [if_pos h.right]
  have h1 := totP_le h c.pt.toNat
  have := h.t1
  have := h.t2
  omega
theorem wait0 {c : Cf} (h : OnC c) : 1 ≤ Pc.waitP c.pb c.pc c.pt 0 := by
  unfold Pc.waitP
  rw [if_pos h.right]
  show 1 ≤ min (Pc.dbl c.pc 0 c.pb) c.pc
  have : Pc.dbl c.pc 0 c.pb = c.pb := rfl
  rw [this]
  have := h.b1
  have := h.c1
  omega
theorem totP_pos {c : Cf} (h : OnC c) : ∀ k : Nat, 1 ≤ Pc.totP c.pb c.pc c.pt (k + 1)
  | 0 => by
    have := wait0 h
    show 1 ≤ Pc.totP c.pb c.pc c.pt 0 + Pc.waitP c.pb c.pc c.pt ((0 : Nat) : Int)
    have e : Pc.totP c.pb c.pc c.pt 0 = 0 := rfl
    rw [e]
    exact (by omega : 1 ≤ 0 + Pc.waitP c.pb c.pc c.pt 0)
  | k + 1 => by
    have h1 := totP_pos h k
    have h2 := h.wait ((k + 1 : Nat) : Int)
    show 1 ≤ Pc.totP c.pb c.pc c.pt (k + 1) + Pc.waitP c.pb c.pc c.pt ((k + 1 : Nat) : Int)
    omega
theorem OnC.tpos {c : Cf} (h : OnC c) : 1 ≤ Pc.totalP c.pb c.pc c.pt := by
  unfold Pc.totalP
  rw [if_pos h.right]
  obtain ⟨k, hk⟩ : ∃ k, c.pt.toNat = k + 1 := ⟨c.pt.toNat - 1, by have := h.t1; omega⟩
  rw [hk]
  exact totP_pos h k
theorem runG_in {c : Cf} (h : OnC c) (now : Int) : ∀ k (s : Int × Int), s.1 ≤ c.pt → s.1 ≤ (runG c.pb c.pc c.pt now k s).1 ∧ (runG c.pb c.pc c.pt now k s).1 ≤ c.pt ∧ s.2 ≤ (runG c.pb c.pc c.pt now k s).2 ∧ (runG c.pb c.pc c.pt now k s).2 ≤ s.2 + ((runG c.pb c.pc c.pt now k s).1 - s.1) * 24
  | 0, s, hs => by simp only [runG]; omega
  | k + 1, s, hs => by
    cases hd : dueB c.pt now s.1 s.2
    · rw [runG_stop hd]; omega
    · rw [runG_go hd]
      have hd' : s.1 < c.pt := by
        unfold dueB at hd
        simp only [Bool.and_eq_true, decide_eq_true_eq] at hd
        exact hd.1
      have := runG_in h now k (s.1 + 1, s.2 + Pc.waitP c.pb c.pc c.pt s.1) (by show s.1 + 1 ≤ _; omega)
      have hw := h.wait s.1
      dsimp only at this
      omega
theorem runG_end {c : Cf} (now : Int) : ∀ (k : Nat) (s : Int × Int), c.pt - s.1 ≤ (k : Int) → dueB c.pt now (runG c.pb c.pc c.pt now k s).1 (runG c.pb c.pc c.pt now k s).2 = false
  | 0, s, hs => by
    simp only [runG]
    unfold dueB
    rw [decide_eq_false (by omega)]
    rfl
  | k + 1, s, hs => by
    cases hd : dueB c.pt now s.1 s.2
    · rw [runG_stop hd]; exact hd
    · rw [runG_go hd]
      exact runG_end now k _ (by show c.pt - (s.1 + 1) ≤ _; omega)
/-- what was issued -/
structure Is where
  seq : Int
  at_ : Int
  sent : Int
  over : Bool
/-- a call that waits, and what the book says of it -/
structure RI (c : Cf) (now : Int) (i : Is) (x : Wt) : Prop where
  seq : x.seq = i.seq
  dst : x.dst = 65636
  prog : x.prog = 7
  vers : x.vers = 1
  proc : x.proc = 2
  args : x.args = [97, 98, 99, 100]
  fin : x.fin = i.at_ + Pc.totalP c.pb c.pc c.pt
  tms : x.tms = i.sent
  s0 : 0 ≤ i.sent
  s1 : i.sent ≤ x.snd
  s2 : x.snd ≤ c.pt
  a0 : 0 ≤ i.at_
  a1 : i.at_ ≤ now
  d0 : 0 ≤ x.due
  d1 : x.due ≤ now + x.snd * 24
  l0 : 0 ≤ x.last
  l1 : x.last ≤ now
theorem RI.later {c : Cf} {now : Int} {i : Is} {x : Wt} (h : RI c now i x) : RI c (now + 1) i x :=
  ⟨h.seq, h.dst, h.prog, h.vers, h.proc, h.args, h.fin, h.tms, h.s0, h.s1, h.s2, h.a0, by have := h.a1; omega, h.d0, by have := h.d1; omega, h.l0, by have := h.l1; omega⟩
theorem RI.fine {c : Cf} (hc : OnC c) {now : Int} {i : Is} {x : Wt} (h : RI c now i x) (hn : now ≤ 1000000000) : x.fine := by
  have h1 := h.s0; have h2 := h.s1; have h3 := h.s2; have h4 := h.d0; have h5 := h.d1; have h6 := h.tms; have h7 := hc.t2
  refine ⟨by omega, ⟨by omega, by omega⟩, ⟨by omega, by omega⟩, by rw [h.args]; decide⟩
theorem RI.give {c : Cf} (hc : OnC c) {now : Int} {i : Is} {x : Wt} (h : RI c now i x) (hd : dueW c now x = true) : RI c now { i with sent := i.sent + 1 } (givW c now x) := by
  have hg : runG c.pb c.pc c.pt now 40 (x.snd, x.due) = runG c.pb c.pc c.pt now 39 (x.snd + 1, x.due + Pc.waitP c.pb c.pc c.pt x.snd) := runG_go (s := (x.snd, x.due)) hd 39
  have hlt : x.snd < c.pt ∧ x.due ≤ now := by
    unfold dueW dueB at hd
    simpa using hd
  have hr := runG_in hc now 39 (x.snd + 1, x.due + Pc.waitP c.pb c.pc c.pt x.snd) (by show x.snd + 1 ≤ _; omega)
  have hw := hc.wait x.snd
  have a0 := h.a0; have a1 := h.a1; have l0 := h.l0; have d0 := h.d0; have d1 := h.d1; have s0 := h.s0; have s1 := h.s1; have ht := h.tms
  refine ⟨h.seq, h.dst, h.prog, h.vers, h.proc, h.args, h.fin, ?_, ?_, ?_, ?_, h.a0, h.a1, ?_, ?_, ?_, ?_⟩
  · show x.tms + 1 = i.sent + 1; omega
  · show 0 ≤ i.sent + 1; omega
  · show i.sent + 1 ≤ (runG c.pb c.pc c.pt now 40 (x.snd, x.due)).1
    rw [hg]; dsimp only at hr; omega
  · show (runG c.pb c.pc c.pt now 40 (x.snd, x.due)).1 ≤ c.pt
    rw [hg]; exact hr.2.1
  · show 0 ≤ (runG c.pb c.pc c.pt now 40 (x.snd, x.due)).2
    rw [hg]; dsimp only at hr; omega
  · show (runG c.pb c.pc c.pt now 40 (x.snd, x.due)).2 ≤ now + (runG c.pb c.pc c.pt now 40 (x.snd, x.due)).1 * 24
    rw [hg]; dsimp only at hr; omega
  · show 0 ≤ now; omega
  · exact Int.le_refl now
theorem givW_idle {c : Cf} (hc : OnC c) (now : Int) {x : Wt} (h : 0 ≤ x.snd) : dueW c now (givW c now x) = false :=
  runG_end (c := c) now 40 (x.snd, x.due) (by show c.pt - x.snd ≤ 40; have := hc.t2; omega)
/-- how the book, the calls that wait and the outcomes fit: n1, n2 are waters of old -/
structure OM (c : Cf) (now next : Int) (I : List Is) (L : List Wt) (D : List Oc) (n1 n2 : Int) : Prop where
  num : ∀ (k : Nat) (i : Is), I[k]? = some i → i.seq = 9 + k
  nxt : next = 9 + I.length
  now0 : 0 ≤ now
  wt : ∀ x ∈ L, ∃ (k : Nat) (i : Is), I[k]? = some i ∧ i.over = false ∧ RI c now i x ∧ now < x.fin
  dn : ∀ d ∈ D, ∃ (k : Nat) (i : Is), I[k]? = some i ∧ i.over = false ∧ d.seq = i.seq ∧ d.at_ = now ∧ (now ≤ i.at_ + Pc.totalP c.pb c.pc c.pt ∧ 0 ≤ i.at_ ∧ i.at_ ≤ now)
  all : ∀ (k : Nat) (i : Is), I[k]? = some i → i.over = false → (∃ x ∈ L, x.seq = i.seq) ∨ (∃ d ∈ D, d.seq = i.seq)
  srt : L.Pairwise (fun a b => a.seq < b.seq ∧ a.fin ≤ b.fin)
  dis : (D.map Oc.seq).Nodup ∧ ∀ d ∈ D, ∀ x ∈ L, d.seq ≠ x.seq
  win : ∀ x ∈ L, next - x.seq ≤ c.win
  lo : ∀ x ∈ L, n1 ≤ x.seq ∧ n2 ≤ x.seq
  lon : n1 ≤ next ∧ n2 ≤ next
section
variable {c : Cf} {now next : Int} {I : List Is} {L : List Wt} {D : List Oc} {n1 n2 : Int}
theorem OM.same_at (h : OM c now next I L D n1 n2) {k k' : Nat} {i i' : Is} (h1 : I[k]? = some i) (h2 : I[k']? = some i') (e : i.seq = i'.seq) : k = k' ∧ i = i' := by
  have a := h.num k i h1
  have b := h.num k' i' h2
  have : k = k' := by omega
  subst this
  rw [h1] at h2
  exact ⟨rfl, Option.some.inj h2⟩
theorem OM.seq_lt (h : OM c now next I L D n1 n2) {x : Wt} (hx : x ∈ L) : 9 ≤ x.seq ∧ x.seq < next := by
  obtain ⟨k, i, h1, h2, h3, _⟩ := h.wt x hx
  have a := h.num k i h1
  have b := h.nxt
  have := (List.getElem?_eq_some_iff.1 h1).1
  have := h3.seq
  omega
theorem OM.water (h : OM c now next I L D n1 n2) (hw : 1 ≤ c.win) : n1 ≤ waterL next L ∧ n2 ≤ waterL next L ∧ next - waterL next L ≤ c.win ∧ 9 ≤ waterL next L ∧ waterL next L ≤ next := by
  cases L with
  | nil =>
    have h1 := h.lon
    have h2 := h.nxt
    unfold waterL
    dsimp only
    omega
  | cons x L =>
    have h1 := h.lo x (by simp)
    have h2 := h.win x (by simp)
    have h3 := h.seq_lt (x := x) (by simp)
    unfold waterL
    dsimp only
    omega
theorem water_le (srt : L.Pairwise (fun a b => a.seq < b.seq ∧ a.fin ≤ b.fin)) {x : Wt} (hx : x ∈ L) : waterL next L ≤ x.seq := by
  cases L with
  | nil => cases hx
  | cons y L =>
    unfold waterL
    dsimp only
    rcases List.mem_cons.1 hx with e | e
    · rw [e]; exact Int.le_refl _
    · have := (List.pairwise_cons.1 srt).1 x e
      omega
end
end Go.Proofs.YtfcbjcebkahehaaGreatDoor.Cl
namespace Go.Proofs.YtfcbjcebkahehaaGreatDoor.Cl
open Go.RowKit
theorem OM.start (c : Cf) : OM c 0 9 [] [] [] 0 0 :=
  ⟨fun k i h => by simp at h, rfl, Int.le_refl _, fun x h => (by cases h), fun d h => (by cases h), fun k i h => by simp at h, List.Pairwise.nil, ⟨List.nodup_nil, fun d h => (by cases h)⟩, fun x h => (by cases h), fun x h => (by cases h), by omega, by omega⟩
/-- over now -/
def mark1 (I : List Is) (s : Int) : List Is := I.modify (s - 9).toNat (fun i => { i with over := true })
/-- sent once more -/
def bump1 (I : List Is) (s : Int) : List Is := I.modify (s - 9).toNat (fun i => { i with sent := i.sent + 1 })
theorem mod_len (I : List Is) (k : Nat) (f : Is → Is) : (I.modify k f).length = I.length := by simp
theorem mod_at {I : List Is} {k j : Nat} {f : Is → Is} {i : Is} (h : (I.modify k f)[j]? = some i) : ∃ i0, I[j]? = some i0 ∧ ((k = j ∧ i = f i0) ∨ (k ≠ j ∧ i = i0)) := by
  rw [List.getElem?_modify] at h
  cases hj : I[j]? with
  | none => rw [hj] at h; simp at h
  | some i0 =>
    rw [hj] at h
    refine ⟨i0, rfl, ?_⟩
    by_cases hk : k = j
    · simp only [if_pos hk] at h; exact .inl ⟨hk, (Option.some.inj h).symm⟩
    · simp only [if_neg hk] at h; exact .inr ⟨hk, (Option.some.inj h).symm⟩
theorem mod_is {I : List Is} {k : Nat} {f : Is → Is} {i : Is} (h : I[k]? = some i) : (I.modify k f)[k]? = some (f i) := by rw [List.getElem?_modify, h]; simp
theorem mod_ne {I : List Is} {k j : Nat} {f : Is → Is} {i : Is} (h : I[j]? = some i) (hk : k ≠ j) : (I.modify k f)[j]? = some i := by rw [List.getElem?_modify, h]; simp [hk]
section
variable {c : Cf} {now next : Int} {I : List Is} {L : List Wt} {D : List Oc} {n1 n2 : Int}
theorem OM.call (h : OM c now next I L [] n1 n2) (hc : OnC c) {x : Wt} {fin : Int} (hx : x.isNew 65636 7 1 2 [97, 98, 99, 100] now fin next) (hf : fin = now + Pc.totalP c.pb c.pc c.pt) (hw : next - waterL next L < c.win) : OM c now (next + 1) (I ++ [⟨next, now, 0, false⟩]) (L ++ [x]) [] n1 n2 := by
  obtain ⟨e1, e2, e3, e4, e5, e6, e7, e8, e9, e10, e11⟩ := hx
  have hn := h.nxt
  have hp := hc.tpos
  have h0 := h.now0
  have hpt := hc.t1
  have hnew : (I ++ [(⟨next, now, 0, false⟩ : Is)])[I.length]? = some ⟨next, now, 0, false⟩ := by simp
  have hold : ∀ {k : Nat} {i : Is}, I[k]? = some i → (I ++ [(⟨next, now, 0, false⟩ : Is)])[k]? = some i := fun hk => by
    rw [List.getElem?_append_left (List.getElem?_eq_some_iff.1 hk).1]; exact hk
  have hinv : ∀ {k : Nat} {i : Is}, (I ++ [(⟨next, now, 0, false⟩ : Is)])[k]? = some i → I[k]? = some i ∨ (k = I.length ∧ i = ⟨next, now, 0, false⟩) := fun {k i} hk => by
    rcases Nat.lt_or_ge k I.length with hl | hl
    · rw [List.getElem?_append_left hl] at hk; exact .inl hk
    · rw [List.getElem?_append_right hl] at hk
      have : k - I.length = 0 := by
        have := (List.getElem?_eq_some_iff.1 hk).1
        simp at this; omega
      rw [this] at hk
      exact .inr ⟨by omega, by simpa using hk.symm⟩
  refine ⟨fun k i hk => ?_, by simp; omega, h0, fun y hy => ?_, fun d hd => (by cases hd), fun k i hk ho => ?_, ?_, ⟨List.nodup_nil, fun d h => (by cases h)⟩, fun y hy => ?_, fun y hy => ?_, by have := h.lon; omega⟩
  · rcases hinv hk with e | ⟨rfl, rfl⟩
    · exact h.num k i e
    · exact hn
  · rcases List.mem_append.1 hy with e | e
    · obtain ⟨k, i, a1, a2, a3, a4⟩ := h.wt y e
      exact ⟨k, i, hold a1, a2, a3, a4⟩
    · simp at e
      subst e
      exact ⟨I.length, _, hnew, rfl, ⟨e11, e1, e2, e3, e4, e5, e8.trans hf, e9, Int.le_refl _, by rw [e6]; exact Int.le_refl 0, by rw [e6]; omega, h0, Int.le_refl _, by rw [e7]; exact h0, by rw [e7, e6]; omega, by rw [e10]; omega, by rw [e10]; exact h0⟩, by rw [e8, hf]; omega⟩
  · rcases hinv hk with e | ⟨rfl, rfl⟩
    · rcases h.all k i e ho with ⟨y, hy, he⟩ | ⟨d, hd, _⟩
      · exact .inl ⟨y, List.mem_append_left _ hy, he⟩
      · cases hd
    · exact .inl ⟨x, by simp, e11⟩
  · rw [List.pairwise_append]
    refine ⟨h.srt, by simp, fun y hy z hz => ?_⟩
    simp at hz
    subst hz
    obtain ⟨k, i, a1, a2, a3, a4⟩ := h.wt y hy
    have := h.seq_lt hy
    have := a3.fin
    have := a3.a1
    exact ⟨by rw [e11]; omega, by rw [e8, hf]; omega⟩
  · rcases List.mem_append.1 hy with e | e
    · have := water_le (next := next) h.srt e
      omega
    · simp at e
      subst e
      have := hc.w1
      rw [e11]; omega
  · have := h.lon
    rcases List.mem_append.1 hy with e | e
    · exact h.lo y e
    · simp at e
      subst e
      rw [e11]; omega
theorem OM.raise (h : OM c now next I L D n1 n2) : OM c now next I L D (waterL next L) n2 :=
  ⟨h.num, h.nxt, h.now0, h.wt, h.dn, h.all, h.srt, h.dis, h.win, fun x hx => ⟨water_le h.srt hx, (h.lo x hx).2⟩, ⟨by
    cases L with
    | nil => exact Int.le_refl _
    | cons y L => have := h.seq_lt (x := y) (by simp); unfold waterL; dsimp only; omega, h.lon.2⟩⟩
theorem OM.raise2 (h : OM c now next I L D n1 n2) : OM c now next I L D n1 (waterL next L) :=
  ⟨h.num, h.nxt, h.now0, h.wt, h.dn, h.all, h.srt, h.dis, h.win, fun x hx => ⟨(h.lo x hx).1, water_le h.srt hx⟩, ⟨h.lon.1, by
    cases L with
    | nil => exact Int.le_refl _
    | cons y L => have := h.seq_lt (x := y) (by simp); unfold waterL; dsimp only; omega⟩⟩
theorem srt_apart {A B : List Wt} (h : (A ++ B).Pairwise (fun a b => a.seq < b.seq ∧ a.fin ≤ b.fin)) {x y : Wt} (hx : x ∈ A) (hy : y ∈ B) : x.seq < y.seq ∧ x.fin ≤ y.fin := (List.pairwise_append.1 h).2.2 x hx y hy
theorem OM.hear {A R : List Wt} {x : Wt} (h : OM c now next I (A ++ x :: R) [] n1 n2) {o : Oc} (hs : o.seq = x.seq) (ha : o.at_ = now) : OM c now next I (A ++ R) [o] n1 n2 := by
  have hm : ∀ y ∈ A ++ R, y ∈ A ++ x :: R := fun y hy => by
    rcases List.mem_append.1 hy with e | e
    · exact List.mem_append_left _ e
    · exact List.mem_append_right _ (List.mem_cons_of_mem _ e)
  have hne : ∀ y ∈ A ++ R, y.seq ≠ x.seq := fun y hy => by
    rcases List.mem_append.1 hy with e | e
    · have := (srt_apart h.srt e (y := x) (by simp)).1; omega
    · have := (List.pairwise_cons.1 (List.pairwise_append.1 h.srt).2.1).1 y e; omega
  obtain ⟨k, i, a1, a2, a3, a4⟩ := h.wt x (by simp)
  refine ⟨h.num, h.nxt, h.now0, fun y hy => h.wt y (hm y hy), fun d hd => ?_, fun k' i' hk ho => ?_, h.srt.sublist (List.Sublist.append (List.Sublist.refl _) (List.sublist_cons_self _ _)), ⟨by simp, fun d hd y hy => ?_⟩, fun y hy => h.win y (hm y hy), fun y hy => h.lo y (hm y hy), h.lon⟩
  · simp at hd
    subst hd
    have := a3.fin
    have := a3.a0
    have := a3.a1
    exact ⟨k, i, a1, a2, hs.trans a3.seq, ha, by omega, by omega, by omega⟩
  · rcases h.all k' i' hk ho with ⟨y, hy, he⟩ | ⟨d, hd, _⟩
    · rcases List.mem_append.1 hy with e | e
      · exact .inl ⟨y, List.mem_append_left _ e, he⟩
      · rcases List.mem_cons.1 e with rfl | e
        · exact .inr ⟨o, by simp, hs.trans he⟩
        · exact .inl ⟨y, List.mem_append_right _ e, he⟩
    · cases hd
  · simp at hd
    subst hd
    rw [hs]
    exact fun e => hne y hy e.symm
theorem take_app (p : Wt → Bool) (L : List Wt) : L.takeWhile p ++ L.dropWhile p = L := List.takeWhile_append_dropWhile
theorem drop_keeps {p : Wt → Bool} (now : Int) (hp : p = overB now) : ∀ (L : List Wt), L.Pairwise (fun a b => a.seq < b.seq ∧ a.fin ≤ b.fin) → ∀ x ∈ L.dropWhile p, now < x.fin
  | [], _, x, hx => by cases hx
  | y :: L, hs, x, hx => by
    cases hy : p y
    · rw [List.dropWhile_cons_of_neg (by simp [hy])] at hx
      have h1 : now < y.fin := by
        rw [hp] at hy
        unfold overB at hy
        have := of_decide_eq_false hy
        omega
      rcases List.mem_cons.1 hx with e | e
      · rw [e]; exact h1
      · have := (List.pairwise_cons.1 hs).1 x e
        omega
    · rw [List.dropWhile_cons_of_pos hy] at hx
      exact drop_keeps now hp L (List.pairwise_cons.1 hs).2 x hx
theorem take_over (now : Int) : ∀ (L : List Wt), ∀ x ∈ L.takeWhile (overB now), x.fin ≤ now
  | [], x, hx => by cases hx
  | y :: L, x, hx => by
    cases hy : overB now y
    · rw [List.takeWhile_cons_of_neg (by simp [hy])] at hx; cases hx
    · rw [List.takeWhile_cons_of_pos hy] at hx
      rcases List.mem_cons.1 hx with e | e
      · rw [e]
        unfold overB at hy
        exact of_decide_eq_true hy
      · exact take_over now L x e
theorem OM.tick (h : OM c now next I L [] n1 n2) : OM c (now + 1) next I (L.dropWhile (overB (now + 1))) ((L.takeWhile (overB (now + 1))).map (tOut (now + 1))) n1 n2 := by
  obtain ⟨A, hA⟩ : ∃ A, L.takeWhile (overB (now + 1)) = A := ⟨_, rfl⟩
  obtain ⟨R, hR⟩ : ∃ R, L.dropWhile (overB (now + 1)) = R := ⟨_, rfl⟩
  have hAR : A ++ R = L := by rw [← hA, ← hR]; exact take_app _ L
  have hmR : ∀ y ∈ R, y ∈ L := fun y hy => by rw [← hAR]; exact List.mem_append_right _ hy
  have hmA : ∀ y ∈ A, y ∈ L := fun y hy => by rw [← hAR]; exact List.mem_append_left _ hy
  have hk : ∀ x ∈ R, now + 1 < x.fin := by rw [← hR]; exact drop_keeps (now + 1) rfl L h.srt
  have ho : ∀ x ∈ A, x.fin ≤ now + 1 := by rw [← hA]; exact take_over (now + 1) L
  have hs : (A ++ R).Pairwise (fun a b => a.seq < b.seq ∧ a.fin ≤ b.fin) := by rw [hAR]; exact h.srt
  have h0 := h.now0
  rw [hA, hR]
  refine ⟨h.num, h.nxt, by omega, fun y hy => ?_, fun d hd => ?_, fun k i hk' ho' => ?_, (List.pairwise_append.1 hs).2.1, ⟨?_, fun d hd y hy => ?_⟩, fun y hy => h.win y (hmR y hy), fun y hy => h.lo y (hmR y hy), h.lon⟩
  · obtain ⟨k, i, a1, a2, a3, a4⟩ := h.wt y (hmR y hy)
    exact ⟨k, i, a1, a2, a3.later, hk y hy⟩
  · obtain ⟨x, hx, rfl⟩ := List.mem_map.1 hd
    obtain ⟨k, i, a1, a2, a3, a4⟩ := h.wt x (hmA x hx)
    have := a3.fin
    have := a3.a0
    have := a3.a1
    exact ⟨k, i, a1, a2, a3.seq, rfl, by omega, by omega, by omega⟩
  · rcases h.all k i hk' ho' with ⟨y, hy, he⟩ | ⟨d, hd, _⟩
    · rw [← hAR] at hy
      rcases List.mem_append.1 hy with e | e
      · exact .inr ⟨_, List.mem_map_of_mem e, he⟩
      · exact .inl ⟨y, e, he⟩
    · cases hd
  · have hp := (List.pairwise_append.1 hs).1
    rw [List.map_map]
    refine List.pairwise_map.2 (hp.imp fun {a b} e => ?_)
    show a.seq ≠ b.seq
    omega
  · obtain ⟨x, hx, rfl⟩ := List.mem_map.1 hd
    have := (srt_apart hs hx hy).1
    show x.seq ≠ y.seq
    omega
theorem OM.mark {d : Oc} (h : OM c now next I L (d :: D) n1 n2) : OM c now next (mark1 I d.seq) L D n1 n2 ∧ ∃ (k : Nat) (i : Is), I[k]? = some i ∧ d.seq = 9 + k ∧ i.over = false ∧ d.at_ = now ∧ (now ≤ i.at_ + Pc.totalP c.pb c.pc c.pt ∧ 0 ≤ i.at_ ∧ i.at_ ≤ now) := by
  obtain ⟨k, i, a1, a2, a3, a4, a5⟩ := h.dn d (by simp)
  have hk : d.seq = 9 + k := a3.trans (h.num k i a1)
  have hkn : (d.seq - 9).toNat = k := by omega
  refine ⟨?_, k, i, a1, hk, a2, a4, a5⟩
  unfold mark1
  rw [hkn]
  refine ⟨fun k' i' hk' => ?_, by rw [mod_len]; exact h.nxt, h.now0, fun x hx => ?_, fun d' hd' => ?_, fun k' i' hk' ho => ?_, h.srt, ⟨(List.nodup_cons.1 h.dis.1).2, fun d' hd' => h.dis.2 d' (List.mem_cons_of_mem _ hd')⟩, h.win, h.lo, h.lon⟩
  · obtain ⟨i0, b1, b2 | b2⟩ := mod_at hk'
    · rw [b2.2]; exact h.num k' i0 b1
    · rw [b2.2]; exact h.num k' i0 b1
  · obtain ⟨k', i', b1, b2, b3, b4⟩ := h.wt x hx
    refine ⟨k', i', mod_ne b1 (fun e => ?_), b2, b3, b4⟩
    subst e
    rw [a1] at b1
    cases b1
    exact h.dis.2 d (by simp) x hx (a3.trans b3.seq.symm)
  · obtain ⟨k', i', b1, b2, b3, b4, b5⟩ := h.dn d' (List.mem_cons_of_mem _ hd')
    refine ⟨k', i', mod_ne b1 (fun e => ?_), b2, b3, b4, b5⟩
    subst e
    rw [a1] at b1
    cases b1
    have := (List.nodup_cons.1 (by simpa using h.dis.1 : (d.seq :: D.map Oc.seq).Nodup)).1
    exact this (List.mem_map.2 ⟨d', hd', b3.trans a3.symm⟩)
  · obtain ⟨i0, b1, b2 | b2⟩ := mod_at hk'
    · rw [b2.2] at ho; cases ho
    · rw [b2.2] at ho ⊢
      rcases h.all k' i0 b1 ho with e | ⟨d', hd', he⟩
      · exact .inl e
      · rcases List.mem_cons.1 hd' with rfl | e
        · exact absurd (h.same_at a1 b1 (a3.symm.trans he)).1 b2.1
        · exact .inr ⟨d', e, he⟩
/-- the sequences of the calls without an outcome -/
def novI (I : List Is) : List Int := (I.filter (fun i => !i.over)).map Is.seq
theorem sorted_same : ∀ {a b : List Int}, a.Pairwise (· < ·) → b.Pairwise (· < ·) → (∀ x, x ∈ a ↔ x ∈ b) → a = b
  | [], [], _, _, _ => rfl
  | [], y :: b, _, _, h => by have := (h y).2 (by simp); cases this
  | x :: a, [], _, _, h => by have := (h x).1 (by simp); cases this
  | x :: a, y :: b, ha, hb, h => by
    have ha' := List.pairwise_cons.1 ha
    have hb' := List.pairwise_cons.1 hb
    have hxy : x = y := by
      rcases List.mem_cons.1 ((h x).1 (by simp)) with e | e
      · exact e
      · rcases List.mem_cons.1 ((h y).2 (by simp)) with e2 | e2
        · exact e2.symm
        · have := ha'.1 y e2
          have := hb'.1 x e
          omega
    subst hxy
    rw [sorted_same ha'.2 hb'.2 (fun z => ⟨fun hz => ?_, fun hz => ?_⟩)]
    · rcases List.mem_cons.1 ((h z).1 (List.mem_cons_of_mem _ hz)) with e | e
      · have := ha'.1 z hz; omega
      · exact e
    · rcases List.mem_cons.1 ((h z).2 (List.mem_cons_of_mem _ hz)) with e | e
      · have := hb'.1 z hz; omega
      · exact e
theorem OM.issued (h : OM c now next I L D n1 n2) : I.Pairwise (fun a b => a.seq < b.seq) := by
  rw [List.pairwise_iff_getElem]
  intro i j hi hj hij
  have a := h.num i _ (List.getElem?_eq_getElem hi)
  have b := h.num j _ (List.getElem?_eq_getElem hj)
  omega
theorem OM.nov (h : OM c now next I L [] n1 n2) : novI I = L.map Wt.seq := by
  refine sorted_same ?_ ?_ (fun z => ⟨fun hz => ?_, fun hz => ?_⟩)
  · exact List.pairwise_map.2 ((h.issued.sublist List.filter_sublist).imp fun e => e)
  · exact List.pairwise_map.2 (h.srt.imp fun e => e.1)
  · obtain ⟨i, hi, rfl⟩ := List.mem_map.1 hz
    obtain ⟨hi1, hi2⟩ := List.mem_filter.1 hi
    obtain ⟨k, hk⟩ := List.mem_iff_getElem?.1 hi1
    rcases h.all k i hk (by simpa using hi2) with ⟨x, hx, e⟩ | ⟨d, hd, _⟩
    · exact List.mem_map.2 ⟨x, hx, e⟩
    · cases hd
  · obtain ⟨x, hx, rfl⟩ := List.mem_map.1 hz
    obtain ⟨k, i, a1, a2, a3, _⟩ := h.wt x hx
    exact List.mem_map.2 ⟨i, List.mem_filter.2 ⟨List.mem_of_getElem? a1, by simp [a2]⟩, a3.seq.symm⟩
/-- each call without an outcome ends later -/
theorem OM.soon (h : OM c now next I L [] n1 n2) {k : Nat} {i : Is} (hk : I[k]? = some i) (ho : i.over = false) : now < i.at_ + Pc.totalP c.pb c.pc c.pt ∧ 0 ≤ i.at_ ∧ i.at_ ≤ now := by
  rcases h.all k i hk ho with ⟨x, hx, e⟩ | ⟨d, hd, _⟩
  · obtain ⟨k', i', a1, a2, a3, a4⟩ := h.wt x hx
    obtain ⟨rfl, rfl⟩ := h.same_at a1 hk (a3.seq.symm.trans e)
    have := a3.fin
    have := a3.a0
    have := a3.a1
    omega
  · cases hd
end
end Go.Proofs.YtfcbjcebkahehaaGreatDoor.Cl
