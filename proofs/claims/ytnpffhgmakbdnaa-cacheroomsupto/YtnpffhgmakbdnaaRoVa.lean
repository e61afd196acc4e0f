/- CacheRooms, plainly: who keeps to a window has room. -/
import Derived.Test.YtnpffhgmakbdnaaRoOa
namespace Go.Proofs.Ytnpffhgmakbdnaa
open Go.RowKit
theorem nodup_len : ∀ (k : Nat) (l : List Int) (lo : Int), l.Nodup → (∀ x ∈ l, lo ≤ x ∧ x < lo + k) → l.length ≤ k
  | 0, l, lo, _, h => by
    cases l with
    | nil => simp
    | cons x l => have := h x (by simp); omega
  | k + 1, l, lo, hd, h => by
    have h1 := nodup_len k (l.erase lo) (lo + 1) (hd.erase lo) (fun x hx => by
      have h2 := (hd.mem_erase_iff.1 hx)
      have h3 := h x h2.2
      have h4 := h2.1
      omega)
    by_cases hm : lo ∈ l
    · rw [List.length_erase_of_mem hm] at h1
      omega
    · rw [List.erase_of_not_mem hm] at h1
      omega
theorem wh_is (x : Nat) (hx : x < 8) : whA x = 65536 + (x : Int) / 2 ∧ whI x = 1 + (x : Int) % 2 := by
  have : pickP (x : Int) 8 = x := by unfold pickP; rw [if_neg (by omega)]; omega
  unfold whA whI
  rw [this]
  exact ⟨rfl, rfl⟩
/-- which of the eight a client is -/
def ixC (c : Cl) : Int := (c.a - 65536) * 2 + (c.i - 1)
theorem ix_is {c : Cl} {x : Nat} (hx : x < 8) (h : c.is (whA x) (whI x)) : ixC c = x := by
  obtain ⟨e1, e2⟩ := wh_is x hx
  unfold ixC
  rw [h.1, h.2, e1, e2]
  omega
theorem wh_inj {x y : Nat} (hx : x < 8) (hy : y < 8) {c : Cl} (h1 : c.is (whA x) (whI x)) (h2 : c.is (whA y) (whI y)) : x = y := by
  have e1 := ix_is hx h1
  have e2 := ix_is hy h2
  omega
structure KC (nx ln : Nat) (c : Cl) : Prop where
  two : 2 ≤ nx
  wat : c.water + ln ≤ nx
  top : ∀ e ∈ c.ents, e.seq < nx
  all : ∀ s : Int, (nx : Int) - ln ≤ s → s < nx → ∃ e ∈ c.ents, e.seq = s
structure RM (n : Nat) (C : List Cl) (nx ln : Nat → Nat) : Prop where
  le : ∀ x, ln x + 1 ≤ nx x ∨ (nx x = 0 ∧ ln x = 0)
  kn : ∀ c ∈ C, ∃ x, x < n ∧ c.is (whA x) (whI x) ∧ KC (nx x) (ln x) c
  un : ∀ x, x < n → 2 ≤ nx x → ∃ c ∈ C, c.is (whA x) (whI x)
def upd (f : Nat → Nat) (x v : Nat) : Nat → Nat := fun y => if y = x then v else f y
theorem upd_same (f : Nat → Nat) (x v : Nat) : upd f x v x = v := if_pos rfl
theorem upd_ne (f : Nat → Nat) {x y : Nat} (v : Nat) (h : y ≠ x) : upd f x v y = f y := if_neg h
section
variable {n most : Nat} {g : Cf} {C C' : List Cl} {nx ln : Nat → Nat} {x : Nat}
theorem RM.of (h : RM n C nx ln) (hn : n ≤ 8) (hx : x < n) {c : Cl} (hc : c ∈ C) (hi : c.is (whA x) (whI x)) : KC (nx x) (ln x) c := by
  obtain ⟨y, hy, hyi, k⟩ := h.kn c hc
  have : x = y := wh_inj (by omega) (by omega) hi hyi
  subst this
  exact k
theorem ents_len {c : Cl} {N : Nat} (hc : ClOk g c) (ht : ∀ e ∈ c.ents, e.seq < N) : c.water ≤ N → (c.ents.length : Int) ≤ N - c.water := by
  intro hw
  have h1 := nodup_len (N - c.water).toNat (c.ents.map En.seq) c.water hc.nd (fun s hs => by
    obtain ⟨e, he, rfl⟩ := List.mem_map.1 hs
    have := (hc.en e he).lo
    have := ht e he
    omega)
  rw [List.length_map] at h1
  omega
theorem cl_byt {c : Cl} (hc : ClOk g c) : byt g.rs c.ents ≤ c.ents.length * g.rs := byt_le fun e he => by
  unfold sz
  split
  · exact (hc.en e he).rep
  · exact Nat.le_refl _
theorem tot_le : ∀ (C : List Cl), (∀ c ∈ C, ClOk g c) → tot g.rs C ≤ C.length * (g.en * g.rs)
  | [], _ => by simp [tot]
  | c :: C, h => by
    have h1 := tot_le C (fun d hd => h d (by simp [hd]))
    have h2 := cl_byt (h c (by simp))
    have h3 : c.ents.length * g.rs ≤ g.en * g.rs := Nat.mul_le_mul_right _ (h c (by simp)).len
    have h4 : tot g.rs (c :: C) = byt g.rs c.ents + tot g.rs C := by simp [tot]
    rw [h4, List.length_cons, Nat.succ_mul]
    omega
theorem clients_len (h : RM n C nx ln) (st : StOk g C) (hn : n ≤ 8) (hx : x < n) (hno : ∀ c ∈ C, ¬ c.is (whA x) (whI x)) : C.length + 1 ≤ n := by
  have key : ((x : Int) :: C.map ixC).Nodup := by
    refine List.nodup_cons.2 ⟨fun hm => ?_, ?_⟩
    · obtain ⟨c, hc, e⟩ := List.mem_map.1 hm
      obtain ⟨y, hy, hyi, _⟩ := h.kn c hc
      have := ix_is (by omega) hyi
      have hxy : y = x := by omega
      subst hxy
      exact hno c hc hyi
    · have hw := st.who
      unfold List.Nodup at hw ⊢
      rw [List.pairwise_map] at hw ⊢
      refine hw.imp_of_mem ?_
      intro c d hc hd hne e
      obtain ⟨y, hy, hyi, _⟩ := h.kn c hc
      obtain ⟨z, hz, hzi, _⟩ := h.kn d hd
      have e1 := ix_is (by omega) hyi
      have e2 := ix_is (by omega) hzi
      have hyz : y = z := by omega
      subst hyz
      exact hne (by rw [hyi.1, hyi.2, hzi.1, hzi.2])
  have := nodup_len n _ 0 key (fun v hv => by
    rcases List.mem_cons.1 hv with rfl | hv
    · omega
    · obtain ⟨c, hc, rfl⟩ := List.mem_map.1 hv
      obtain ⟨y, hy, hyi, _⟩ := h.kn c hc
      have := ix_is (by omega) hyi
      omega)
  simpa using this
/-- one that waits is sent anew -/
theorem rm_wait (h : RM n C nx ln) (st : StOk g C) (hn : n ≤ 8) (hx : x < n) {s : Int} (h1 : (nx x : Int) - ln x ≤ s) (h2 : s < nx x) (hbig : nx x ≤ 4294967295) {v : Int} {rep : ByteArray}
    (hA : AskR g C (whA x) (whI x) s ((nx x : Int) - ln x) v rep C') : (v = 2 ∨ v = 3) ∧ RM n C' nx ln ∧ (v = 2 → ∃ c ∈ C', c.is (whA x) (whI x) ∧ busyE (enAt c.ents s) = true) := by
  have hle := h.le x
  obtain ⟨c0, hc0, hi0⟩ := h.un x hx (by omega)
  have k0 := h.of hn hx hc0 hi0
  obtain ⟨e0, he0, hs0⟩ := k0.all s h1 h2
  have hw0 : (raiseC c0 ((nx x : Int) - ln x)).water = (nx x : Int) - ln x := by
    unfold raiseC
    split
    · have := k0.wat; omega
    · rfl
  have hin : e0 ∈ (raiseC c0 ((nx x : Int) - ln x)).ents := raise_keep he0 (by rw [hw0, hs0]; exact h1)
  have ok0 : ClOk g (raiseC c0 ((nx x : Int) - ln x)) := raise_ok (st.cl c0 hc0) (by omega)
  have back : ∀ A B, C = A ++ c0 :: B → RM n (A ++ raiseC c0 ((nx x : Int) - ln x) :: B) nx ln := by
    intro A B hC
    obtain ⟨r1, r2, _⟩ := raise_same c0 ((nx x : Int) - ln x)
    refine ⟨h.le, fun c hc => ?_, fun y hy hy2 => ?_⟩
    · rw [List.mem_append, List.mem_cons] at hc
      rcases hc with hc | rfl | hc
      · exact h.kn c (by rw [hC]; simp [hc])
      · refine ⟨x, hx, ⟨r1.trans hi0.1, r2.trans hi0.2⟩, k0.two, by rw [hw0]; omega, fun e he => k0.top e (raise_sub he), fun s' q1 q2 => ?_⟩
        obtain ⟨e, he, hes⟩ := k0.all s' q1 q2
        exact ⟨e, raise_keep he (by rw [hw0, hes]; exact q1), hes⟩
      · exact h.kn c (by rw [hC]; simp [hc])
    · obtain ⟨c, hc, hci⟩ := h.un y hy hy2
      rw [hC, List.mem_append, List.mem_cons] at hc
      rcases hc with hc | rfl | hc
      · exact ⟨c, by simp [hc], hci⟩
      · exact ⟨_, by simp, ⟨r1.trans hci.1, r2.trans hci.2⟩⟩
      · exact ⟨c, by simp [hc], hci⟩
  have same : ∀ A B c, C = A ++ c :: B → c.is (whA x) (whI x) → c = c0 := fun A B c hC hi => same_who st (by rw [hC]; simp) hc0 hi hi0
  cases hA with
  | bad q =>
    exfalso
    obtain ⟨a1, a2⟩ := wh_is x (by omega)
    refine q ⟨?_, ?_, ?_, ?_⟩ <;> (unfold inB; simp; omega)
  | old A B c hC hi _ _ q => rw [same A B c hC hi, hw0] at q; omega
  | there A B c e hC hi _ _ he hes =>
    have hcc := same A B c hC hi
    subst hcc
    have hee : e = e0 := by
      have q1 := enAt_is ok0.nd he
      have q2 := enAt_is ok0.nd hin
      rw [hes] at q1
      rw [hs0] at q2
      rw [q1] at q2
      exact Option.some.inj q2
    refine ⟨?_, back A B hC, fun hv => ⟨raiseC c ((nx x : Int) - ln x), by simp, ?_, ?_⟩⟩
    · cases e.ans <;> simp
    · obtain ⟨r1, r2, _⟩ := raise_same c ((nx x : Int) - ln x)
      exact ⟨r1.trans hi.1, r2.trans hi.2⟩
    · have q1 := enAt_is ok0.nd he
      rw [hes] at q1
      rw [q1]
      cases hans : e.ans
      · simp [busyE, hans]
      · rw [hans] at hv; simp at hv
  | full A B c hC hi _ _ _ q =>
    have hcc := same A B c hC hi
    subst hcc
    exact absurd hs0 (enAt_none q e0 hin)
  | new A B c hC hi _ _ _ q =>
    have hcc := same A B c hC hi
    subst hcc
    exact absurd hs0 (enAt_none q e0 hin)
  | oldU q => exact absurd hi0 (q c0 hc0)
  | fullU q => exact absurd hi0 (q c0 hc0)
  | newU b m q => exact absurd hi0 (q c0 hc0)
/-- a new call -/
theorem rm_new (h : RM n C nx ln) (st : StOk g C) (hn : n ≤ 8) (hx : x < n) (hg : g = ⟨n, most, 64 * n * most, 64⟩) (hm : 1 ≤ most) (h1 : 1 ≤ nx x) (hroom : ln x < most) (hbig : nx x ≤ 4294967295) {v : Int} {rep : ByteArray}
    (hA : AskR g C (whA x) (whI x) (nx x) ((nx x : Int) - ln x) v rep C') : v = 1 ∧ RM n C' (upd nx x (nx x + 1)) (upd ln x (ln x + 1)) ∧ (∃ c ∈ C', c.is (whA x) (whI x) ∧ busyE (enAt c.ents (nx x)) = true) := by
  have hle := h.le x
  have hmul : n * (most * 64) = 64 * n * most := by rw [Nat.mul_comm most 64, ← Nat.mul_assoc, Nat.mul_comm n 64]
  have le' : ∀ y, upd ln x (ln x + 1) y + 1 ≤ upd nx x (nx x + 1) y ∨ (upd nx x (nx x + 1) y = 0 ∧ upd ln x (ln x + 1) y = 0) := fun y => by
    unfold upd
    split
    · left; omega
    · exact h.le y
  have stay : ∀ c ∈ C, ¬ c.is (whA x) (whI x) → ∃ y, y < n ∧ c.is (whA y) (whI y) ∧ KC (upd nx x (nx x + 1) y) (upd ln x (ln x + 1) y) c := fun c hc hno => by
    obtain ⟨y, hy, hyi, k⟩ := h.kn c hc
    have hne : y ≠ x := fun e => hno (by rw [← e]; exact hyi)
    exact ⟨y, hy, hyi, by rw [upd_ne nx _ hne, upd_ne ln _ hne]; exact k⟩
  have others : ∀ A B c, C = A ++ c :: B → c.is (whA x) (whI x) → ∀ d, (d ∈ A ∨ d ∈ B) → ¬ d.is (whA x) (whI x) := fun A B c hC hi d hd hdi => by
    have hw := st.who
    rw [hC, List.map_append, List.map_cons] at hw
    have hp := List.perm_middle.nodup_iff.1 hw
    refine (List.nodup_cons.1 hp).1 ?_
    rw [← List.map_append]
    refine List.mem_map.2 ⟨d, by rw [List.mem_append]; exact hd, ?_⟩
    rw [hdi.1, hdi.2, hi.1, hi.2]
  have grow : ∀ A B c c', C = A ++ c :: B → c.is (whA x) (whI x) → c'.is (whA x) (whI x) → KC (nx x + 1) (ln x + 1) c' → RM n (A ++ c' :: B) (upd nx x (nx x + 1)) (upd ln x (ln x + 1)) := by
    intro A B c c' hC hi hi' k'
    refine ⟨le', fun d hd => ?_, fun y hy hy2 => ?_⟩
    · rw [List.mem_append, List.mem_cons] at hd
      rcases hd with hd | rfl | hd
      · exact stay d (by rw [hC]; simp [hd]) (others A B c hC hi d (.inl hd))
      · exact ⟨x, hx, hi', by rw [upd_same, upd_same]; exact k'⟩
      · exact stay d (by rw [hC]; simp [hd]) (others A B c hC hi d (.inr hd))
    · by_cases hyx : y = x
      · subst hyx
        exact ⟨c', by simp, hi'⟩
      · rw [upd_ne nx _ hyx] at hy2
        obtain ⟨d, hd, hdi⟩ := h.un y hy hy2
        rw [hC, List.mem_append, List.mem_cons] at hd
        rcases hd with hd | rfl | hd
        · exact ⟨d, by simp [hd], hdi⟩
        · exact absurd (wh_inj (by omega) (by omega) hdi hi) hyx
        · exact ⟨d, by simp [hd], hdi⟩
  have bad : (inB (whA x) 1 16777215 = true ∧ inB (whI x) 1 4611686018427387904 = true ∧ inB (nx x) 1 4294967295 = true ∧ inB ((nx x : Int) - ln x) 1 4294967295 = true) := by
    obtain ⟨a1, a2⟩ := wh_is x (by omega)
    refine ⟨?_, ?_, ?_, ?_⟩ <;> (unfold inB; simp; omega)
  have known : ∀ c ∈ C, c.is (whA x) (whI x) → (raiseC c ((nx x : Int) - ln x)).water = (nx x : Int) - ln x ∧ (∀ e ∈ (raiseC c ((nx x : Int) - ln x)).ents, e.seq < nx x) ∧ ((raiseC c ((nx x : Int) - ln x)).ents.length ≤ ln x) ∧ ClOk g (raiseC c ((nx x : Int) - ln x)) := fun c hc hi => by
    have k := h.of hn hx hc hi
    have hw0 : (raiseC c ((nx x : Int) - ln x)).water = (nx x : Int) - ln x := by
      unfold raiseC
      split
      · have := k.wat; omega
      · rfl
    have ht : ∀ e ∈ (raiseC c ((nx x : Int) - ln x)).ents, e.seq < nx x := fun e he => k.top e (raise_sub he)
    have ok0 : ClOk g (raiseC c ((nx x : Int) - ln x)) := raise_ok (st.cl c hc) (by omega)
    have := ents_len ok0 ht (by rw [hw0]; omega)
    rw [hw0] at this
    exact ⟨hw0, ht, by omega, ok0⟩
  have room : ∀ A B c, C = A ++ c :: B → c.is (whA x) (whI x) → tot g.rs (A ++ raiseC c ((nx x : Int) - ln x) :: B) + g.rs ≤ g.by_ := by
    intro A B c hC hi
    obtain ⟨_, _, q3, q4⟩ := known c (by rw [hC]; simp) hi
    have b1 := cl_byt q4
    have t1 := tot_le A (fun d hd => st.cl d (by rw [hC]; simp [hd]))
    have t2 := tot_le B (fun d hd => st.cl d (by rw [hC]; simp [hd]))
    have hl := st.len
    rw [hC, List.length_append, List.length_cons] at hl
    rw [tot_mid]
    have b2 : (raiseC c ((nx x : Int) - ln x)).ents.length * g.rs + g.rs ≤ g.en * g.rs := by
      rw [← Nat.succ_mul]
      refine Nat.mul_le_mul_right _ ?_
      rw [hg]; show _ + 1 ≤ most; omega
    have b3 : (A.length + B.length + 1) * (g.en * g.rs) ≤ g.cl * (g.en * g.rs) := Nat.mul_le_mul_right _ (by omega)
    have b4 : g.cl * (g.en * g.rs) = g.by_ := by rw [hg]; exact hmul
    rw [Nat.add_mul, Nat.add_mul, Nat.one_mul, b4] at b3
    omega
  cases hA with
  | bad q => exact absurd bad q
  | old A B c hC hi _ _ q => rw [(known c (by rw [hC]; simp) hi).1] at q; omega
  | there A B c e hC hi _ _ he hes =>
    have := (known c (by rw [hC]; simp) hi).2.1 e he
    omega
  | full A B c hC hi _ _ _ _ q =>
    exfalso
    rcases q with q | q
    · have := (known c (by rw [hC]; simp) hi).2.2.1
      rw [hg] at q
      have q' : most ≤ (raiseC c ((nx x : Int) - ln x)).ents.length := q
      omega
    · exact q (room A B c hC hi)
  | new A B c hC hi _ _ _ q =>
    obtain ⟨w1, w2, w3, w4⟩ := known c (by rw [hC]; simp) hi
    have k := h.of hn hx (by rw [hC]; simp) hi
    obtain ⟨r1, r2, _⟩ := raise_same c ((nx x : Int) - ln x)
    have hi' : ({ raiseC c ((nx x : Int) - ln x) with ents := (raiseC c ((nx x : Int) - ln x)).ents ++ [newE (nx x)] } : Cl).is (whA x) (whI x) := ⟨r1.trans hi.1, r2.trans hi.2⟩
    refine ⟨rfl, grow A B c _ hC hi hi' ⟨by omega, ?_, ?_, ?_⟩, _, by simp, hi', ?_⟩
    · show (raiseC c ((nx x : Int) - ln x)).water + _ ≤ _
      rw [w1]; omega
    · intro e he
      rcases List.mem_append.1 he with he | he
      · have := w2 e he; omega
      · rw [List.mem_singleton.1 he]; show (nx x : Int) < _; omega
    · intro s q1 q2
      by_cases hs : s = nx x
      · exact ⟨newE (nx x), List.mem_append.2 (.inr (by simp)), by rw [hs]⟩
      · obtain ⟨e, he, hes⟩ := k.all s (by omega) (by omega)
        exact ⟨e, List.mem_append.2 (.inl (raise_keep he (by rw [w1, hes]; omega))), hes⟩
    · show busyE (enAt ((raiseC c ((nx x : Int) - ln x)).ents ++ [newE (nx x)]) (nx x)) = true
      unfold enAt at q ⊢
      rw [List.find?_append, q]
      simp [newE, busyE]
  | oldU _ _ _ _ _ q => omega
  | fullU q1 _ _ _ _ _ q =>
    exfalso
    have hcl := clients_len h st hn hx q1
    rcases q with q | q
    · rw [hg] at q
      have q' : n ≤ C.length := q
      omega
    · refine q ?_
      have t1 := tot_le C st.cl
      have b3 : (C.length + 1) * (g.en * g.rs) ≤ g.cl * (g.en * g.rs) := Nat.mul_le_mul_right _ (by rw [hg]; exact hcl)
      have b4 : g.cl * (g.en * g.rs) = g.by_ := by rw [hg]; exact hmul
      have b5 : g.rs ≤ g.en * g.rs := by
        have := Nat.mul_le_mul_right g.rs (show 1 ≤ g.en by rw [hg]; exact hm)
        rwa [Nat.one_mul] at this
      rw [Nat.add_mul, Nat.one_mul, b4] at b3
      omega
  | newU b m q1 =>
    have hlo : nx x = 1 ∧ ln x = 0 := by
      rcases Nat.lt_or_ge (nx x) 2 with h2 | h2
      · omega
      · obtain ⟨c, hc, hci⟩ := h.un x hx h2
        exact absurd hci (q1 c hc)
    refine ⟨rfl, ⟨le', fun d hd => ?_, fun y hy hy2 => ?_⟩, ⟨⟨whA x, whI x, (nx x : Int) - ln x, [newE (nx x)], b, m⟩, by simp, ⟨rfl, rfl⟩, ?_⟩⟩
    · rcases List.mem_append.1 hd with hd | hd
      · exact stay d hd (q1 d hd)
      · rw [List.mem_singleton.1 hd]
        refine ⟨x, hx, ⟨rfl, rfl⟩, ?_⟩
        rw [upd_same, upd_same]
        refine ⟨by omega, ?_, ?_, ?_⟩
        · show (nx x : Int) - ln x + _ ≤ _; omega
        · intro e he
          rw [List.mem_singleton.1 he]; show (nx x : Int) < _; omega
        · intro s q1 q2
          exact ⟨newE (nx x), by simp, by show (nx x : Int) = s; omega⟩
    · by_cases hyx : y = x
      · subst hyx
        exact ⟨_, List.mem_append.2 (.inr (List.mem_singleton.2 rfl)), ⟨rfl, rfl⟩⟩
      · rw [upd_ne nx _ hyx] at hy2
        obtain ⟨d, hd, hdi⟩ := h.un y hy hy2
        exact ⟨d, by simp [hd], hdi⟩
    · simp [enAt, newE, busyE]
/-- answered -/
theorem rm_done (h : RM n C nx ln) (hn : n ≤ 8) (hx : x < n) (hrs : 6 ≤ g.rs) {s : Int} {rep : ByteArray} (hrep : rep.size = 6) (hb : ∃ c ∈ C, c.is (whA x) (whI x) ∧ busyE (enAt c.ents s) = true) {v : Int} (hD : DoneR g C (whA x) (whI x) s rep v C') : v = 0 ∧ RM n C' nx ln := by
  obtain ⟨c0, hc0, hi0, hb0⟩ := hb
  cases hD with
  | none q => rw [q c0 hc0 hi0] at hb0; cases hb0
  | long c _ _ _ q => omega
  | ok A B c E1 E2 e hC hi he hes _ _ =>
    refine ⟨rfl, h.le, fun d hd => ?_, fun y hy hy2 => ?_⟩
    · rw [List.mem_append, List.mem_cons] at hd
      rcases hd with hd | rfl | hd
      · exact h.kn d (by rw [hC]; simp [hd])
      · have k := h.of hn hx (by rw [hC]; simp) hi
        refine ⟨x, hx, hi, k.two, k.wat, fun e' he' => ?_, fun s' q1 q2 => ?_⟩
        · have he'' : e' ∈ E1 ++ ⟨s, true, rep⟩ :: E2 := he'
          rw [List.mem_append, List.mem_cons] at he''
          rcases he'' with q | rfl | q
          · exact k.top e' (by rw [he]; simp [q])
          · have := k.top e (by rw [he]; simp)
            rw [hes] at this; exact this
          · exact k.top e' (by rw [he]; simp [q])
        · obtain ⟨e', he', hs'⟩ := k.all s' q1 q2
          rw [he, List.mem_append, List.mem_cons] at he'
          rcases he' with q | rfl | q
          · exact ⟨e', by show e' ∈ E1 ++ _ :: E2; simp [q], hs'⟩
          · exact ⟨⟨s, true, rep⟩, by show _ ∈ E1 ++ _ :: E2; simp, by rw [← hs', hes]⟩
          · exact ⟨e', by show e' ∈ E1 ++ _ :: E2; simp [q], hs'⟩
      · exact h.kn d (by rw [hC]; simp [hd])
    · obtain ⟨d, hd, hdi⟩ := h.un y hy hy2
      rw [hC, List.mem_append, List.mem_cons] at hd
      rcases hd with hd | rfl | hd
      · exact ⟨d, by simp [hd], hdi⟩
      · exact ⟨_, List.mem_append.2 (.inr (List.mem_cons.2 (.inl rfl))), hdi⟩
      · exact ⟨d, by simp [hd], hdi⟩
/-- the one that waits longest is given up -/
theorem rm_end (h : RM n C nx ln) (hp : 0 < ln x) : RM n C nx (upd ln x (ln x - 1)) := by
  refine ⟨fun y => ?_, fun c hc => ?_, h.un⟩
  · unfold upd
    have := h.le x
    split
    · rename_i e; subst e; left; omega
    · exact h.le y
  · obtain ⟨y, hy, hyi, k⟩ := h.kn c hc
    refine ⟨y, hy, hyi, ?_⟩
    by_cases hyx : y = x
    · subst hyx
      rw [upd_same]
      exact ⟨k.two, by have := k.wat; omega, k.top, fun s q1 q2 => k.all s (by omega) q2⟩
    · rw [upd_ne ln _ hyx]; exact k
/-- one that begins -/
theorem rm_one (h : RM n C nx ln) (hz : nx x = 0) : RM n C (upd nx x 1) ln := by
  have hl := h.le x
  refine ⟨fun y => ?_, fun c hc => ?_, fun y hy hy2 => ?_⟩
  · unfold upd
    split
    · rename_i e; subst e; left; omega
    · exact h.le y
  · obtain ⟨y, hy, hyi, k⟩ := h.kn c hc
    have hne : y ≠ x := fun e => by subst e; have := k.two; omega
    exact ⟨y, hy, hyi, by rw [upd_ne nx _ hne]; exact k⟩
  · have hne : y ≠ x := fun e => by subst e; rw [upd_same] at hy2; omega
    rw [upd_ne nx _ hne] at hy2
    exact h.un y hy hy2
end
end Go.Proofs.Ytnpffhgmakbdnaa
