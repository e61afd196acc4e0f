/- Calls and replies: what was laid down is read, what is read was laid down. The program's Reader: something is wrong; a mark is told. The program reads a mark. ParseMark. Who is let in: small functions. A credential judged. A mark judged. A mark judged. A mark judged. Judge. -/
import Derived.Test.YtfcbjcebkahehaaGreatDoorZbs
import Derived.Test.YtfcbjcebkahehaaGreatDoorRq
import Derived.Test.YtfcbjcebkahehaaGreatDoorZan
import Derived.StillTailTactics
namespace Go.Proofs.YtfcbjcebkahehaaGreatDoor
theorem good_bool (t : Bool) : Good rdBool (nbL 4 (if t then 1 else 0)) t := by
  refine (good_word (if t then 1 else 0) (by cases t <;> decide)).map rdBool t ?_ ?_
  · intro l h
    unfold rdBool
    rw [h, nbL_len]
    cases t <;> rfl
  · intro l h
    unfold rdBool
    rw [if_pos (by rw [h]; decide), h]
theorem one_bool : One rdBool (fun b => nbL 4 (if b then 1 else 0)) (fun _ => True) := by
  intro l h
  unfold rdBool at h ⊢
  by_cases hw : (rdWord l).wrong ≠ 0
  · rw [if_pos hw] at h; exact absurd h hw
  · rw [if_neg hw] at h ⊢
    by_cases h1 : 1 < (rdWord l).val
    · rw [if_pos h1] at h; exact absurd h (by decide)
    · rw [if_neg h1]
      obtain ⟨a1, a2, _⟩ := one_word l (Decidable.not_not.1 hw)
      have hs : (rdWord l).size = 4 := (rdWord_size l).1
      rw [hs] at a1 a2
      refine ⟨a1, ?_, trivial⟩
      show nbL 4 (if ((rdWord l).val == 1) = true then 1 else 0) = l.take 4
      rw [← a2]
      have : (rdWord l).val = 0 ∨ (rdWord l).val = 1 := by omega
      rcases this with e | e <;> rw [e] <;> rfl
theorem go_cnt {n m : Int} (h0 : 0 ≤ n) (h1 : n ≤ m) (hm : m ≤ 4294967295) (r : List UInt8) : (⟨nbL 4 n.toNat ++ r, 0⟩ : Rs).go 0 (rdCount m) = (n.toNat, ⟨r, 0⟩) := go_good (good_count m _ (by omega) hm) 0 r
theorem go_flag (t : Bool) (r : List UInt8) : (⟨nbL 4 (if t then 1 else 0) ++ r, 0⟩ : Rs).go false rdBool = (t, ⟨r, 0⟩) := go_good (good_bool t) false r
theorem fail_ne (st : Rs) : (st.fail 121).e ≠ 0 := by
  unfold Rs.fail
  by_cases h : st.e = 0
  · simp [h]
  · simp [h]
theorem tail_there (s : List UInt8) (h : plainB s) : rdTail ⟨s, 0⟩ = (s, ⟨[], 0⟩) := by
  unfold rdTail
  rw [if_pos h]
  unfold Rs.go rdRest
  simp
theorem tail_back (st : Rs) (h : (rdTail st).2.e = 0) : st.e = 0 ∧ plainB st.l ∧ (rdTail st).1 = st.l ∧ (rdTail st).2.l = [] := by
  unfold rdTail at h ⊢
  by_cases hp : plainB st.l
  · rw [if_pos hp] at h ⊢
    by_cases h0 : st.e ≠ 0
    · rw [go_stay h0] at h; exact absurd h h0
    · unfold Rs.go rdRest
      rw [if_neg h0]
      simp only [ne_eq, not_true, if_false]
      exact ⟨Decidable.not_not.1 h0, hp, by first | rfl | trivial, by simp⟩
  · rw [if_neg hp, go_stay (fail_ne st)] at h
    exact absurd h (fail_ne st)
theorem head_there {n x : Int} (hn : isW n) (hx : isW x) (r : List UInt8) : rdHead n ⟨nbL 4 x.toNat ++ (nbL 4 n.toNat ++ r), 0⟩ = (x.toNat, ⟨r, 0⟩) := by
  unfold rdHead
  rw [go_word hx]
  simp only []
  rw [go_word hn]
  simp only []
  rw [if_pos (toNat_w hn).2]
theorem head_back (n : Int) (st : Rs) (h : (rdHead n st).2.e = 0) : st.e = 0 ∧ (rdHead n st).1 < 4294967296 ∧ (((st.go 0 rdWord).2.go 0 rdWord).1 : Int) = n ∧ st.l = nbL 4 (rdHead n st).1 ++ (nbL 4 n.toNat ++ (rdHead n st).2.l) := by
  unfold rdHead at h ⊢
  by_cases hk : (((st.go 0 rdWord).2.go 0 rdWord).1 : Int) = n
  · simp only [if_pos hk] at h ⊢
    obtain ⟨k1, k2, k3⟩ := go_one one_word 0 (st.go 0 rdWord).2 h
    obtain ⟨x1, x2, x3⟩ := go_one one_word 0 st k1
    refine ⟨x1, x2, hk, ?_⟩
    have e : ((st.go 0 rdWord).2.go 0 rdWord).1 = n.toNat := by omega
    rw [e] at k3
    rw [← k3]
    exact x3
  · simp only [if_neg hk] at h
    exact absurd h (fail_ne _)
theorem done_zero {l : List UInt8} {e : Int} (h : rdDone l e = 0) : e = 0 ∧ l = [] := by
  unfold rdDone at h
  by_cases h1 : e = 0 ∧ l ≠ []
  · rw [if_pos h1] at h; exact absurd h (by decide)
  · rw [if_neg h1] at h
    exact ⟨h, Decidable.not_not.1 fun q => h1 ⟨h, q⟩⟩
theorem parseC_there (c : CallP) (h : c.may) : parseC c.lay = (c, 0) := by
  obtain ⟨h1, h2, h3, h4, h5, h6, h7, h8⟩ := h
  obtain ⟨cx, cr, cp, cv, cq, cc, cf, ca⟩ := c
  have h2 : cr = 2 := h2
  subst h2
  have e : rdCallQ ⟨CallP.lay ⟨cx, 2, cp, cv, cq, cc, cf, ca⟩, 0⟩ = ⟨(cx.toNat, ⟨nbL 4 (2 : Int).toNat ++ (nbL 4 cp.toNat ++ (nbL 4 cv.toNat ++ (nbL 4 cq.toNat ++ (cc.lay ++ (cf.lay ++ ca))))), 0⟩), (2, ⟨nbL 4 cp.toNat ++ (nbL 4 cv.toNat ++ (nbL 4 cq.toNat ++ (cc.lay ++ (cf.lay ++ ca)))), 0⟩), (cp.toNat, ⟨nbL 4 cv.toNat ++ (nbL 4 cq.toNat ++ (cc.lay ++ (cf.lay ++ ca))), 0⟩), (cv.toNat, ⟨nbL 4 cq.toNat ++ (cc.lay ++ (cf.lay ++ ca)), 0⟩), (cq.toNat, ⟨cc.lay ++ (cf.lay ++ ca), 0⟩), (cc, ⟨cf.lay ++ ca, 0⟩), (cf, ⟨ca, 0⟩), (ca, ⟨[], 0⟩)⟩ := by
    unfold rdCallQ CallP.lay
    simp only []
    rw [show nbL 4 0 = nbL 4 (0 : Int).toNat from rfl, head_there (by decide) h1]
    simp only []
    rw [go_word (n := 2) (by decide)]
    simp only []
    rw [go_word h3]
    simp only []
    rw [go_word h4]
    simp only []
    rw [go_word h5]
    simp only []
    rw [auth_there _ h6]
    simp only []
    rw [auth_there _ h7]
    simp only []
    rw [tail_there _ h8]
    rfl
  unfold parseC
  rw [e]
  simp only [CallQ.all, (toNat_w h1).2, (toNat_w h3).2, (toNat_w h4).2, (toNat_w h5).2]
  rfl
theorem parseC_other {x n : Int} (hx : isW x) (hn : isW n) (h2 : n ≠ 2) (r : List UInt8) : parseC (nbL 4 x.toNat ++ (nbL 4 0 ++ (nbL 4 n.toNat ++ r))) = (⟨x, n, 0, 0, 0, nulA, nulA, []⟩, 0) := by
  have e1 : (rdCallQ ⟨nbL 4 x.toNat ++ (nbL 4 0 ++ (nbL 4 n.toNat ++ r)), 0⟩).h = (x.toNat, ⟨nbL 4 n.toNat ++ r, 0⟩) := head_there (n := 0) (by decide) hx _
  have e2 : (rdCallQ ⟨nbL 4 x.toNat ++ (nbL 4 0 ++ (nbL 4 n.toNat ++ r)), 0⟩).r = (n.toNat, ⟨r, 0⟩) := by
    show (rdCallQ ⟨nbL 4 x.toNat ++ (nbL 4 0 ++ (nbL 4 n.toNat ++ r)), 0⟩).h.2.go 0 rdWord = _
    rw [e1]
    exact go_word hn r
  unfold parseC
  rw [if_pos (by rw [e2]; exact ⟨rfl, by rw [(toNat_w hn).2]; exact h2⟩)]
  unfold CallQ.two
  rw [e1, e2]
  simp only [(toNat_w hx).2, (toNat_w hn).2]
theorem parseC_form (s : List UInt8) : ((parseC s).2 = 0 ∧ (((⟨s, 0⟩ : Rs).go 0 rdWord).2.go 0 rdWord).1 = 0 ∧ ((parseC s).1.rpc = 2 → (parseC s).1.may ∧ s = (parseC s).1.lay)) ∨ parseC s = (nulC, 121) := by
  unfold parseC
  by_cases h1 : (rdCallQ ⟨s, 0⟩).r.2.e = 0 ∧ ((rdCallQ ⟨s, 0⟩).r.1 : Int) ≠ 2
  · rw [if_pos h1]
    refine .inl ⟨rfl, ?_, fun q => absurd q h1.2⟩
    obtain ⟨a1, _, _⟩ := go_one one_word 0 (rdCallQ ⟨s, 0⟩).h.2 h1.1
    have := (head_back 0 ⟨s, 0⟩ a1).2.2.1
    exact Int.ofNat_eq_zero.1 this
  · rw [if_neg h1]
    by_cases hd : rdDone (rdCallQ ⟨s, 0⟩).a.2.l (rdCallQ ⟨s, 0⟩).a.2.e = 0
    · rw [if_pos hd]
      obtain ⟨he, _⟩ := done_zero hd
      obtain ⟨t1, t2, t3, t4⟩ := tail_back (rdCallQ ⟨s, 0⟩).f.2 he
      obtain ⟨f1, f2, f3⟩ := auth_back (rdCallQ ⟨s, 0⟩).c.2 t1
      obtain ⟨c1, c2, c3⟩ := auth_back (rdCallQ ⟨s, 0⟩).q.2 f1
      obtain ⟨q1, q2, q3⟩ := go_one one_word 0 (rdCallQ ⟨s, 0⟩).v.2 c1
      obtain ⟨v1, v2, v3⟩ := go_one one_word 0 (rdCallQ ⟨s, 0⟩).p.2 q1
      obtain ⟨p1, p2, p3⟩ := go_one one_word 0 (rdCallQ ⟨s, 0⟩).r.2 v1
      obtain ⟨r1, r2, r3⟩ := go_one one_word 0 (rdCallQ ⟨s, 0⟩).h.2 p1
      obtain ⟨x1, x2, x3, x4⟩ := head_back 0 ⟨s, 0⟩ r1
      have e2 : ((rdCallQ ⟨s, 0⟩).r.1 : Int) = 2 := Decidable.not_not.1 fun q => h1 ⟨p1, q⟩
      refine .inl ⟨rfl, Int.ofNat_eq_zero.1 x3, fun _ => ?_⟩
      have y1 : rdHead 0 ⟨s, 0⟩ = (rdCallQ ⟨s, 0⟩).h := rfl
      have y2 : (rdCallQ ⟨s, 0⟩).h.2.go 0 rdWord = (rdCallQ ⟨s, 0⟩).r := rfl
      have y3 : (rdCallQ ⟨s, 0⟩).r.2.go 0 rdWord = (rdCallQ ⟨s, 0⟩).p := rfl
      have y4 : (rdCallQ ⟨s, 0⟩).p.2.go 0 rdWord = (rdCallQ ⟨s, 0⟩).v := rfl
      have y5 : (rdCallQ ⟨s, 0⟩).v.2.go 0 rdWord = (rdCallQ ⟨s, 0⟩).q := rfl
      have y6 : rdAuth (rdCallQ ⟨s, 0⟩).q.2 = (rdCallQ ⟨s, 0⟩).c := rfl
      have y7 : rdAuth (rdCallQ ⟨s, 0⟩).c.2 = (rdCallQ ⟨s, 0⟩).f := rfl
      have y8 : rdTail (rdCallQ ⟨s, 0⟩).f.2 = (rdCallQ ⟨s, 0⟩).a := rfl
      rw [y1] at x2 x4
      rw [y2] at r2 r3
      rw [y3] at p2 p3
      rw [y4] at v2 v3
      rw [y5] at q2 q3
      rw [y6] at c2 c3
      rw [y7] at f2 f3
      rw [y8] at t3
      refine ⟨⟨nat_w x2, e2, nat_w p2, nat_w v2, nat_w q2, c2, f2, ?_⟩, ?_⟩
      · show plainB (rdCallQ ⟨s, 0⟩).a.1
        rw [t3]; exact t2
      · show s = _
        have x5 : s = _ := x4
        refine x5.trans ?_
        rw [r3, p3, v3, q3, c3, f3]
        unfold CallQ.all CallP.lay
        simp only [Int.toNat_natCast, t3]
        rfl
    · rw [if_neg hd]; exact .inr rfl
theorem rdO_true {α : Type} (d : α) (f : Rs → α × Rs) (st : Rs) : rdO true d f st = f st := rfl
theorem rdO_false {α : Type} (d : α) (f : Rs → α × Rs) (st : Rs) : rdO false d f st = (d, st) := rfl
theorem wordO_back (s : Bool) (st : Rs) (n : Nat × Rs) (hn : rdO s 0 (fun x => x.go 0 rdWord) st = n) (he : n.2.e = 0) : st.e = 0 ∧ (opt s (isW (n.1 : Int), nbL 4 (n.1 : Int).toNat) ((n.1 : Int) = 0, [])).1 ∧ st.l = (opt s (isW (n.1 : Int), nbL 4 (n.1 : Int).toNat) ((n.1 : Int) = 0, [])).2 ++ n.2.l := by
  subst hn
  cases s
  · exact ⟨he, rfl, rfl⟩
  · obtain ⟨a1, a2, a3⟩ := go_one one_word 0 st he
    exact ⟨a1, nat_w a2, a3⟩
theorem cntO_back (s : Bool) (m : Int) (st : Rs) (n : Nat × Rs) (hn : rdO s 0 (fun x => x.go 0 (rdCount m)) st = n) (he : n.2.e = 0) : st.e = 0 ∧ (opt s (0 ≤ (n.1 : Int) ∧ (n.1 : Int) ≤ m, nbL 4 (n.1 : Int).toNat) ((n.1 : Int) = 0, [])).1 ∧ st.l = (opt s (0 ≤ (n.1 : Int) ∧ (n.1 : Int) ≤ m, nbL 4 (n.1 : Int).toNat) ((n.1 : Int) = 0, [])).2 ++ n.2.l := by
  subst hn
  cases s
  · exact ⟨he, rfl, rfl⟩
  · obtain ⟨a1, a2, a3⟩ := go_one (one_count m) 0 st he
    exact ⟨a1, ⟨Int.natCast_nonneg _, a2.2.2⟩, a3⟩
theorem tailO_back (s : Bool) (st : Rs) (n : List UInt8 × Rs) (hn : rdO s [] rdTail st = n) (he : n.2.e = 0) : st.e = 0 ∧ (opt s (plainB n.1, n.1) (n.1 = [], [])).1 ∧ st.l = (opt s (plainB n.1, n.1) (n.1 = [], [])).2 ++ n.2.l := by
  subst hn
  cases s
  · exact ⟨he, rfl, rfl⟩
  · obtain ⟨a1, a2, a3, a4⟩ := tail_back st he
    refine ⟨a1, ?_, ?_⟩
    · show plainB (rdTail st).1
      rw [a3]; exact a2
    · show st.l = (rdTail st).1 ++ (rdTail st).2.l
      rw [a3, a4, List.append_nil]
theorem end_back (b : ReplyP × Rs) (he : (rdE b).2.e = 0) : b.2.e = 0 ∧ allA (rtsE (endM b.1) (endA b.1) (endS b.1) (rdE b).1) ∧ b.2.l = allL (rtsE (endM b.1) (endA b.1) (endS b.1) (rdE b).1) ++ (rdE b).2.l := by
  obtain ⟨t1, t2, t3⟩ := tailO_back (endS b.1) (rdEQ (endM b.1) (endA b.1) (endS b.1) b.2).y.2 (rdEQ (endM b.1) (endA b.1) (endS b.1) b.2).t rfl he
  obtain ⟨y1, y2, y3⟩ := cntO_back (endA b.1) 14 (rdEQ (endM b.1) (endA b.1) (endS b.1) b.2).h.2 (rdEQ (endM b.1) (endA b.1) (endS b.1) b.2).y rfl t1
  obtain ⟨h1, h2, h3⟩ := wordO_back (endM b.1) (rdEQ (endM b.1) (endA b.1) (endS b.1) b.2).l.2 (rdEQ (endM b.1) (endA b.1) (endS b.1) b.2).h rfl y1
  obtain ⟨l1, l2, l3⟩ := wordO_back (endM b.1) b.2 (rdEQ (endM b.1) (endA b.1) (endS b.1) b.2).l rfl h1
  refine ⟨l1, ⟨l2, h2, y2, t2, trivial⟩, ?_⟩
  rw [l3, h3, y3, t3]
  simp only [rtsE, allL, List.append_assoc, List.append_nil]
  rfl
theorem body_back (x : Nat) (d : Bool × Rs) (he : (rdB x d).2.e = 0) : d.2.e = 0 ∧ allA (rtsB (rdB x d).1) ∧ d.2.l = allL (rtsB (rdB x d).1) ++ (rdB x d).2.l := by
  obtain ⟨d, st⟩ := d
  cases d
  · have e : rdB x (false, st) = (⟨x, false, (rdAuth st).1, ((rdAuth st).2.go 0 (rdCount 5)).1, 0, 0, [], 0, 0⟩, ((rdAuth st).2.go 0 (rdCount 5)).2) := rfl
    rw [e] at he ⊢
    obtain ⟨a1, a2, a3⟩ := go_one (one_count 5) 0 (rdAuth st).2 he
    obtain ⟨b1, b2, b3⟩ := auth_back st a1
    refine ⟨b1, ⟨rfl, b2.1, ?_, ⟨Int.natCast_nonneg _, a2.2.2⟩, trivial⟩, ?_⟩
    · have := b2.2
      show (((rdAuth st).1.body.length : Nat) : Int) ≤ 400
      omega
    · show st.l = _
      rw [b3, a3]
      simp only [rtsB, rtsA, allL, AuthP.lay, Bool.false_eq_true, if_false, List.append_assoc, List.append_nil, List.nil_append, Int.toNat_natCast]
  · have e : rdB x (true, st) = (⟨x, true, nulA, 0, 0, 0, [], (st.go 0 (rdCount 1)).1, 0⟩, (st.go 0 (rdCount 1)).2) := rfl
    rw [e] at he ⊢
    obtain ⟨a1, a2, a3⟩ := go_one (one_count 1) 0 st he
    refine ⟨a1, ⟨⟨Int.natCast_nonneg _, a2.2.2⟩, rfl, rfl, rfl, trivial⟩, ?_⟩
    show st.l = _
    rw [a3]
    simp only [rtsB, rtsD, allL, if_true, List.append_nil, Int.toNat_natCast]
theorem rdB_keeps (x : Nat) (d : Bool × Rs) : (rdB x d).1.xid = x ∧ (rdB x d).1.denied = d.1 := by
  obtain ⟨d, st⟩ := d
  cases d <;> exact ⟨rfl, rfl⟩
theorem parseR_form (s : List UInt8) : ((parseR s).2 = 0 ∧ (((⟨s, 0⟩ : Rs).go 0 rdWord).2.go 0 rdWord).1 = 1 ∧ (parseR s).1.may ∧ s = (parseR s).1.lay) ∨ parseR s = (nulR, 121) := by
  unfold parseR
  by_cases hd : rdDone (rdReply ⟨s, 0⟩).2.l (rdReply ⟨s, 0⟩).2.e = 0
  · rw [if_pos hd]
    obtain ⟨he, hl⟩ := done_zero hd
    obtain ⟨x, d, hx⟩ : ∃ x d, rdHD ⟨s, 0⟩ = (x, d) := ⟨_, _, rfl⟩
    obtain ⟨b, hb⟩ : ∃ b, rdB x d = b := ⟨_, rfl⟩
    have hr : rdReply ⟨s, 0⟩ = rdE b := by unfold rdReply; rw [hx, hb]
    rw [hr] at he hl ⊢
    obtain ⟨e1, e2, e3⟩ := end_back b he
    obtain ⟨b1, b2, b3⟩ := body_back x d (by rw [hb]; exact e1)
    have hk := rdB_keeps x d
    rw [hb] at b2 b3 hk
    have hx1 : (rdHead 1 ⟨s, 0⟩).1 = x := congrArg Prod.fst hx
    have hx2 : (rdHead 1 ⟨s, 0⟩).2.go false rdBool = d := congrArg Prod.snd hx
    obtain ⟨d1, _, d3⟩ := go_one one_bool false (rdHead 1 ⟨s, 0⟩).2 (by rw [hx2]; exact b1)
    rw [hx2] at d3
    obtain ⟨h1, h2, h3, h4⟩ := head_back 1 ⟨s, 0⟩ d1
    rw [hx1] at h2 h4
    have hm : (rdE b).1.may := (reply_may _).2 ⟨⟨⟨trivial, by show isW b.1.xid; rw [hk.1]; exact nat_w h2, trivial, trivial, trivial⟩, b2⟩, e2⟩
    refine .inl ⟨rfl, by omega, hm, ?_⟩
    show s = _
    have h5 : s = _ := h4
    refine h5.trans ?_
    rw [← reply_lay_eq _ hm, d3, b3, e3, hl]
    have k1 : (rdE b).1.xid = (x : Int) := hk.1
    have k2 : (rdE b).1.denied = d.1 := hk.2
    have k3 : rtsB (rdE b).1 = rtsB b.1 := rfl
    have k4 : endM (rdE b).1 = endM b.1 := rfl
    have k5 : endA (rdE b).1 = endA b.1 := rfl
    have k6 : endS (rdE b).1 = endS b.1 := rfl
    rw [k3, k4, k5, k6]
    unfold rtsH
    rw [k1, k2]
    simp only [allL, List.append_assoc, List.append_nil, List.nil_append, Int.toNat_natCast]
    first | rfl | done
  · rw [if_neg hd]; exact .inr rfl
theorem parseR_there (r : ReplyP) (h : r.may) : parseR r.lay = (r, 0) := by
  obtain ⟨rx, rd, rv, ra, rl, rh, rr, rj, rw_⟩ := r
  obtain ⟨h1, h2⟩ := h
  have key : ∀ (st : Rs) (z : ReplyP), rdReply st = (z, ⟨[], 0⟩) → st.e = 0 → parseR st.l = (z, 0) := fun st z e e0 => by
    obtain ⟨l, E⟩ := st
    have e0 : E = 0 := e0
    subst e0
    unfold parseR
    rw [e]
    rfl
  have hd : ∀ t : List UInt8, rdHD ⟨nbL 4 rx.toNat ++ (nbL 4 1 ++ (nbL 4 (if rd then 1 else 0) ++ t)), 0⟩ = (rx.toNat, (rd, ⟨t, 0⟩)) := fun t => by
    unfold rdHD
    rw [show nbL 4 1 = nbL 4 (1 : Int).toNat from rfl, head_there (n := 1) (by decide) h1]
    simp only []
    rw [go_flag]
  cases rd
  · simp only [Bool.false_eq_true, if_false] at h2
    obtain ⟨hv, rfl, rfl, ha0, ha5, h7⟩ := h2
    have hlay : ReplyP.lay ⟨rx, false, rv, ra, rl, rh, rr, 0, 0⟩ = nbL 4 rx.toNat ++ (nbL 4 1 ++ (nbL 4 (if false then 1 else 0) ++ (rv.lay ++ (nbL 4 ra.toNat ++ ((if ra = 2 then nbL 4 rl.toNat ++ nbL 4 rh.toNat else []) ++ rr))))) := rfl
    refine hlay ▸ key ⟨_, 0⟩ _ ?_ rfl
    unfold rdReply
    rw [hd]
    have hb : rdB rx.toNat (false, ⟨rv.lay ++ (nbL 4 ra.toNat ++ ((if ra = 2 then nbL 4 rl.toNat ++ nbL 4 rh.toNat else []) ++ rr)), 0⟩) = (⟨rx, false, rv, ra, 0, 0, [], 0, 0⟩, ⟨(if ra = 2 then nbL 4 rl.toNat ++ nbL 4 rh.toNat else []) ++ rr, 0⟩) := by
      unfold rdB
      simp only [Bool.false_eq_true, if_false]
      rw [auth_there _ hv]
      simp only []
      rw [go_cnt ha0 ha5 (by decide)]
      simp only [(toNat_w h1).2, (toNat_w (show isW ra from ⟨ha0, by omega⟩)).2]
    rw [hb]
    rcases h7 with ⟨rfl, a1, rfl, rfl⟩ | ⟨rfl, a1, a2, rfl⟩ | ⟨a0, a1, rfl, rfl, rfl⟩
    · unfold rdE rdEQ endM endA endS
      simp only [Bool.false_eq_true, if_false, show ((0 : Int) == 2) = false from rfl, show ((0 : Int) == 0) = true from rfl, rdO_false, rdO_true, show ¬ (0 : Int) = 2 by decide, List.nil_append]
      rw [tail_there _ a1]
      rfl
    · unfold rdE rdEQ endM endA endS
      simp only [Bool.false_eq_true, if_false, show ((2 : Int) == 2) = true from rfl, show ((2 : Int) == 0) = false from rfl, rdO_false, rdO_true, if_true, List.append_nil]
      rw [go_word a1]
      simp only []
      have e := go_word a2 []
      rw [List.append_nil] at e
      rw [e]
      simp only [(toNat_w a1).2, (toNat_w a2).2]
      rfl
    · unfold rdE rdEQ endM endA endS
      simp only [Bool.false_eq_true, if_false, show (ra == 2) = false from beq_eq_false_iff_ne.2 a1, show (ra == 0) = false from beq_eq_false_iff_ne.2 a0, rdO_false, a1, List.append_nil]
      rfl
  · simp only [if_true] at h2
    obtain ⟨rfl, rfl, rfl, h5⟩ := h2
    have hlay : ReplyP.lay ⟨rx, true, nulA, 0, rl, rh, [], rj, rw_⟩ = nbL 4 rx.toNat ++ (nbL 4 1 ++ (nbL 4 (if true then 1 else 0) ++ (nbL 4 rj.toNat ++ (if rj = 1 then nbL 4 rw_.toNat else nbL 4 rl.toNat ++ nbL 4 rh.toNat)))) := rfl
    refine hlay ▸ key ⟨_, 0⟩ _ ?_ rfl
    unfold rdReply
    rw [hd]
    have hj : 0 ≤ rj ∧ rj ≤ 1 := by rcases h5 with ⟨rfl, _⟩ | ⟨rfl, _⟩ <;> decide
    have hb : rdB rx.toNat (true, ⟨nbL 4 rj.toNat ++ (if rj = 1 then nbL 4 rw_.toNat else nbL 4 rl.toNat ++ nbL 4 rh.toNat), 0⟩) = (⟨rx, true, nulA, 0, 0, 0, [], rj, 0⟩, ⟨(if rj = 1 then nbL 4 rw_.toNat else nbL 4 rl.toNat ++ nbL 4 rh.toNat), 0⟩) := by
      unfold rdB
      simp only [if_true]
      rw [go_cnt hj.1 hj.2 (by decide)]
      simp only [(toNat_w h1).2, (toNat_w (show isW rj from ⟨hj.1, by omega⟩)).2]
    rw [hb]
    rcases h5 with ⟨rfl, a1, a2, rfl⟩ | ⟨rfl, rfl, rfl, a3, a4⟩
    · unfold rdE rdEQ endM endA endS
      simp only [if_true, show ((0 : Int) == 0) = true from rfl, show ((0 : Int) == 1) = false from rfl, rdO_false, rdO_true, show ¬ (0 : Int) = 1 by decide, if_false]
      rw [go_word a1]
      simp only []
      have e := go_word a2 []
      rw [List.append_nil] at e
      rw [e]
      simp only [(toNat_w a1).2, (toNat_w a2).2]
      rfl
    · unfold rdE rdEQ endM endA endS
      simp only [if_true, show ((1 : Int) == 0) = false from rfl, show ((1 : Int) == 1) = true from rfl, rdO_false, rdO_true]
      have e := go_cnt a3 a4 (by decide) []
      rw [List.append_nil] at e
      rw [e]
      simp only [(toNat_w (show isW rw_ from ⟨a3, by omega⟩)).2]
      rfl
theorem lay_four (c : CallP) (h : c.may) : c.lay.length % 4 = 0 ∧ c.lay.length ≤ 1840 := by
  obtain ⟨_, _, _, _, _, h6, h7, h8⟩ := h
  have a1 := auth_len _ h6
  have a2 := auth_len _ h7
  unfold plainB at h8
  unfold CallP.lay
  simp only [List.length_append, nbL_len]
  omega
theorem rlay_four (r : ReplyP) (h : r.may) : r.lay.length % 4 = 0 ∧ r.lay.length ≤ 1840 := by
  obtain ⟨rx, rd, rv, ra, rl, rh, rr, rj, rw_⟩ := r
  obtain ⟨_, h2⟩ := h
  unfold ReplyP.lay
  cases rd
  · simp only [Bool.false_eq_true, if_false] at h2 ⊢
    obtain ⟨hv, _, _, _, _, h7⟩ := h2
    have a1 := auth_len _ hv
    have hr : plainB rr := by
      rcases h7 with ⟨_, a1, _⟩ | ⟨_, _, _, rfl⟩ | ⟨_, _, _, _, rfl⟩
      · exact a1
      · exact ⟨by simp, rfl⟩
      · exact ⟨by simp, rfl⟩
    unfold plainB at hr
    split <;> simp only [List.length_append, nbL_len, List.length_nil] <;> omega
  · by_cases hj : rj = 1
    · simp [hj, nbL_len]
    · simp [hj, nbL_len]
end Go.Proofs.YtfcbjcebkahehaaGreatDoor
namespace Go.Proofs.YtfcbjcebkahehaaGreatDoor
open Go.RowKit
theorem Bk.drew {w : World} {b : Nat} {cs : List Value} {t : TypeId} (h : Bk w b cs t) : Bk w.drew b cs t := h
theorem Bk.set8 {w : World} {b : Nat} {x0 x1 x2 x3 x4 x5 x6 x7 : Value} {t : TypeId} (h : Bk w b [x0, x1, x2, x3, x4, x5, x6, x7] t) (v0 v1 v2 v3 v4 v5 v6 v7 : Value) :
    Bk ((((((((w.setCell ⟨b, 0, none⟩ v0).setCell ⟨b, 1, none⟩ v1).setCell ⟨b, 2, none⟩ v2).setCell ⟨b, 3, none⟩ v3).setCell ⟨b, 4, none⟩ v4).setCell ⟨b, 5, none⟩ v5).setCell ⟨b, 6, none⟩ v6).setCell ⟨b, 7, none⟩ v7) b [v0, v1, v2, v3, v4, v5, v6, v7] t :=
  (((((((h.set 0 v0).set 1 v1).set 2 v2).set 3 v3).set 4 v4).set 5 v5).set 6 v6).set 7 v7
theorem set8_ne (w : World) (b k : Nat) (v0 v1 v2 v3 v4 v5 v6 v7 : Value) (h : k ≠ b) : ((((((((w.setCell ⟨b, 0, none⟩ v0).setCell ⟨b, 1, none⟩ v1).setCell ⟨b, 2, none⟩ v2).setCell ⟨b, 3, none⟩ v3).setCell ⟨b, 4, none⟩ v4).setCell ⟨b, 5, none⟩ v5).setCell ⟨b, 6, none⟩ v6).setCell ⟨b, 7, none⟩ v7).heap[k]? = w.heap[k]? := by
  iterate 8 rw [Below.heap_setCell _ _ _ k h]
theorem below_set8 {w0 w : World} {b B : Nat} (h : Below B w0 w) (hb : B ≤ b) (v0 v1 v2 v3 v4 v5 v6 v7 : Value) : Below B w0 ((((((((w.setCell ⟨b, 0, none⟩ v0).setCell ⟨b, 1, none⟩ v1).setCell ⟨b, 2, none⟩ v2).setCell ⟨b, 3, none⟩ v3).setCell ⟨b, 4, none⟩ v4).setCell ⟨b, 5, none⟩ v5).setCell ⟨b, 6, none⟩ v6).setCell ⟨b, 7, none⟩ v7) :=
  (((((((h.setCell hb v0).setCell hb v1).setCell hb v2).setCell hb v3).setCell hb v4).setCell hb v5).setCell hb v6).setCell hb v7
set_option maxRecDepth 4000 in
set_option maxHeartbeats 1000000 in
theorem told_any (b : Nat) (st us gr i q u : Int) (mc : List UInt8) (oa : Option Addr) (n cap : Nat) (w : World) (hk : Bk w b [.int .i64 st, .string ⟨mc.toArray⟩, .int .i64 us, .int .i64 gr, .slice oa n cap, .int .i64 i, .int .i64 q, .int .i64 u] 258) :
    Calls Tryz.prog 177 #[.pointer (some ⟨b, 0, none⟩)] w fun e w' => e = .returned (.agg #[.int .i64 i, .int .i64 q, .int .i64 u, .int .i64 st, .string ⟨mc.toArray⟩, .int .i64 us, .int .i64 gr, .slice oa n cap]) ∧ Below w.heap.size w w' := by
  have hlt := hk.lt
  obtain ⟨wa, hwa⟩ : ∃ x, w.alloc (.cells #[.int .i64 0, .int .i64 0, .int .i64 0, .int .i64 0, .string ⟨#[]⟩, .int .i64 0, .int .i64 0, .slice none 0 0] 131) = x := ⟨_, rfl⟩
  have HWA := hid hwa
  have hka : Bk wa b _ _ := hwa ▸ hk.below (below_new _ _) hlt
  have hkr : Bk wa w.heap.size [.int .i64 0, .int .i64 0, .int .i64 0, .int .i64 0, .string ⟨#[]⟩, .int .i64 0, .int .i64 0, .slice none 0 0] 131 := hwa ▸ Bk.new _ _ _
  have hB : Below w.heap.size w wa := hwa ▸ below_new _ _
  have c0 := hka.cell 0 rfl
  have c1 := hka.cell 1 rfl
  have c2 := hka.cell 2 rfl
  have c3 := hka.cell 3 rfl
  have c4 := hka.cell 4 rfl
  have c5 := hka.cell 5 rfl
  have c6 := hka.cell 6 rfl
  have c7 := hka.cell 7 rfl
  have k0 := hkr.cell 0 rfl
  have k1 := hkr.cell 1 rfl
  have k2 := hkr.cell 2 rfl
  have k3 := hkr.cell 3 rfl
  have k4 := hkr.cell 4 rfl
  have k5 := hkr.cell 5 rfl
  have k6 := hkr.cell 6 rfl
  have k7 := hkr.cell 7 rfl
  have f0 := hkr.frozen 0
  have f1 := hkr.frozen 1
  have f2 := hkr.frozen 2
  have f3 := hkr.frozen 3
  have f4 := hkr.frozen 4
  have f5 := hkr.frozen 5
  have f6 := hkr.frozen 6
  have f7 := hkr.frozen 7
  have HKR := hid hkr
  have HB := hid hB
  clear hk hka hkr hlt hwa hB
  go_enter Tryz.func177, Tryz.ntmps177
  go_wp2_with fail
  rw [HWA.out]
  go_region
  go_wp2
  generalize hW : World.drew _ = W
  have HZ : Bk W w.heap.size [.int .i64 i, .int .i64 q, .int .i64 u, .int .i64 st, .string ⟨mc.toArray⟩, .int .i64 us, .int .i64 gr, .slice oa n cap] 131 := by rw [← hW]; exact (HKR.out.set8 _ _ _ _ _ _ _ _).drew
  have HBW : Below w.heap.size w W := by rw [← hW]; exact (below_set8 HB.out (Nat.le_refl _) _ _ _ _ _ _ _ _).drew
  clear hW
  have q0 := HZ.cell 0 rfl
  have q1 := HZ.cell 1 rfl
  have q2 := HZ.cell 2 rfl
  have q3 := HZ.cell 3 rfl
  have q4 := HZ.cell 4 rfl
  have q5 := HZ.cell 5 rfl
  have q6 := HZ.cell 6 rfl
  have q7 := HZ.cell 7 rfl
  exact bodyPost_ret (v := .agg #[.int .i64 i, .int .i64 q, .int .i64 u, .int .i64 st, .string ⟨mc.toArray⟩, .int .i64 us, .int .i64 gr, .slice oa n cap]) (by simp [results, Tryz.results177, go_sem, q0, q1, q2, q3, q4, q5, q6, q7]) rfl ⟨rfl, HBW⟩
end Go.Proofs.YtfcbjcebkahehaaGreatDoor
namespace Go.Proofs.YtfcbjcebkahehaaGreatDoor
open Go.RowKit
/-- three numbers, and the state behind them: wrong, if they may not be -/
structure M3 where
  i : Int
  q : Int
  u : Int
  s : Rs
def rdM3 (st : Rs) : M3 := ⟨sg64 (rdMarkR st).a.1, sg64 (rdMarkR st).b.1, sg64 (rdMarkR st).c.1, (rdMarkR st).c.2⟩
def M3.st (m : M3) : Rs := if numsB m.i m.q m.u = true then m.s else ⟨m.s.l, if m.s.e = 0 then 111 else m.s.e⟩
theorem At.hyper {w0 w : World} {b p : Nat} {st : Rs} {cs : List Value} {t : TypeId} (h : At w0 w b p st cs t) :
    Calls Tryz.prog 188 #[.pointer (some ⟨p, 0, none⟩)] w fun e w' => e = .returned (.int .i64 (sg64 (st.go 0 rdHyper).1)) ∧ At w0 w' b p (st.go 0 rdHyper).2 cs t := by
  obtain ⟨l, E⟩ := st
  exact (rhyper_any p l E w h.r).mono fun e w' hp => ⟨hp.1, h.call hp.2.1 hp.2.2⟩
set_option maxRecDepth 4000 in
set_option maxHeartbeats 4000000 in
theorem mread_any (b p : Nat) (t : TypeId) (st : Rs) (w0 w : World) (h : At w0 w b p st ([.int .i64 0, .string ⟨#[]⟩, .int .i64 0, .int .i64 0, .slice none 0 0] ++ [.int .i64 0, .int .i64 0, .int .i64 0]) t) (hl : st.l.length ≤ 281474976710656) :
    Calls Tryz.prog 176 #[.pointer (some ⟨b, 0, none⟩), .pointer (some ⟨p, 0, none⟩)] w fun e w' => e = .returned (.tuple #[]) ∧ ∃ sl, At w0 w' b p (rdSys (rdM3 st).st).2 ([.int .i64 (rdSys (rdM3 st).st).1.stamp, .string ⟨(rdSys (rdM3 st).st).1.machine.toArray⟩, .int .i64 (rdSys (rdM3 st).st).1.user, .int .i64 (rdSys (rdM3 st).st).1.group, sl] ++ [.int .i64 (rdM3 st).i, .int .i64 (rdM3 st).q, .int .i64 (rdM3 st).u]) t ∧ OwnI w' (p + 1) sl (rdSys (rdM3 st).st).1.groups := by
  obtain ⟨a, ha⟩ : ∃ a, st.go 0 rdHyper = a := ⟨_, rfl⟩
  obtain ⟨m, hm⟩ : ∃ m, a.2.go 0 rdHyper = m := ⟨_, rfl⟩
  obtain ⟨c, hc⟩ : ∃ c, m.2.go 0 rdHyper = c := ⟨_, rfl⟩
  have h3 : rdM3 st = ⟨sg64 a.1, sg64 m.1, sg64 c.1, c.2⟩ := by
    unfold rdM3 rdMarkR
    simp only [ha, hm, hc]
  rw [h3]
  have hlc : c.2.l.length ≤ 281474976710656 := by
    rw [← hc, ← hm, ← ha]
    exact Nat.le_trans (go_len _ _ _) (Nat.le_trans (go_len _ _ _) (Nat.le_trans (go_len _ _ _) hl))
  have H0 := hid h
  have HA1 : Hid (∀ w1 cs, At w0 w1 b p st cs t → Calls Tryz.prog 188 #[.pointer (some ⟨p, 0, none⟩)] w1 fun e w' => e = .returned (.int .i64 (sg64 a.1)) ∧ At w0 w' b p a.2 cs t) := fun w1 cs h1 => by rw [← ha]; exact h1.hyper
  have HA2 : Hid (∀ w1 cs, At w0 w1 b p a.2 cs t → Calls Tryz.prog 188 #[.pointer (some ⟨p, 0, none⟩)] w1 fun e w' => e = .returned (.int .i64 (sg64 m.1)) ∧ At w0 w' b p m.2 cs t) := fun w1 cs h1 => by rw [← hm]; exact h1.hyper
  have HA3 : Hid (∀ w1 cs, At w0 w1 b p m.2 cs t → Calls Tryz.prog 188 #[.pointer (some ⟨p, 0, none⟩)] w1 fun e w' => e = .returned (.int .i64 (sg64 c.1)) ∧ At w0 w' b p c.2 cs t) := fun w1 cs h1 => by rw [← hc]; exact h1.hyper
  obtain ⟨an, as_⟩ := a
  obtain ⟨mn, ms⟩ := m
  obtain ⟨cn, cs⟩ := c
  simp only at HA1 HA2 HA3 hlc
  clear h3 ha hm hc h hl
  generalize sg64 an = A at HA1 ⊢
  generalize sg64 mn = B at HA2 ⊢
  generalize sg64 cn = C at HA3 ⊢
  have HFA : Hid (∀ w1 ds, At w0 w1 b p cs ds t → Calls Tryz.prog 189 #[.pointer (some ⟨p, 0, none⟩), .int .i64 111] w1 fun e w' => e = .returned (.tuple #[]) ∧ At w0 w' b p ⟨cs.l, if cs.e = 0 then 111 else cs.e⟩ ds t) := fun w1 ds h1 =>
    (rfail_any p 111 cs w1 h1.r).mono fun e w' hp => ⟨hp.1, h1.call (st' := ⟨cs.l, if cs.e = 0 then 111 else cs.e⟩) hp.2.1 hp.2.2⟩
  obtain ⟨sf, hsf⟩ : ∃ sf, (M3.st ⟨A, B, C, cs⟩) = sf := ⟨_, rfl⟩
  rw [hsf]
  have HLL : Hid (sf.l.length ≤ 281474976710656) := by
    show _ ≤ _
    rw [← hsf]; unfold M3.st
    simp only
    split
    · exact hlc
    · exact hlc
  have HSF : Hid (sf = if numsB A B C = true then cs else ⟨cs.l, if cs.e = 0 then 111 else cs.e⟩) := hsf.symm
  clear hsf hlc
  simp only
  go_enter Tryz.func176, Tryz.ntmps176
  go_wp2_with fail
  refine (HA1.out _ _ H0.out).mono ?_
  rintro e w1 ⟨rfl, h1⟩
  have k0 := h1.k.cell 5 rfl
  have f0 := h1.k.frozen 5
  have H1 : Hid (At w0 (w1.setCell ⟨b, 5, none⟩ (.int .i64 A)) b p as_ ([.int .i64 0, .string ⟨#[]⟩, .int .i64 0, .int .i64 0, .slice none 0 0] ++ [.int .i64 A, .int .i64 0, .int .i64 0]) t) := h1.set 5 _
  clear h1
  go_wp2_with fail
  refine (HA2.out _ _ H1.out).mono ?_
  rintro e w2 ⟨rfl, h2⟩
  have k0 := h2.k.cell 6 rfl
  have f0 := h2.k.frozen 6
  have H2 : Hid (At w0 (w2.setCell ⟨b, 6, none⟩ (.int .i64 B)) b p ms ([.int .i64 0, .string ⟨#[]⟩, .int .i64 0, .int .i64 0, .slice none 0 0] ++ [.int .i64 A, .int .i64 B, .int .i64 0]) t) := h2.set 6 _
  clear h2
  go_wp2_with fail
  refine (HA3.out _ _ H2.out).mono ?_
  rintro e w3 ⟨rfl, h3⟩
  have k0 := h3.k.cell 7 rfl
  have f0 := h3.k.frozen 7
  have H3 : Hid (At w0 (w3.setCell ⟨b, 7, none⟩ (.int .i64 C)) b p cs ([.int .i64 0, .string ⟨#[]⟩, .int .i64 0, .int .i64 0, .slice none 0 0] ++ [.int .i64 A, .int .i64 B, .int .i64 C]) t) := h3.set 7 _
  clear h3
  have HNU := hid (nums_any b A B C _ (H3.out.k.cell 5 rfl) (H3.out.k.cell 6 rfl) (H3.out.k.cell 7 rfl))
  cases hnb : numsB A B C
  · rw [hnb] at HNU
    have HS2 : Hid (sf = ⟨cs.l, if cs.e = 0 then 111 else cs.e⟩) := by have := HSF.out; rw [hnb] at this; exact this
    clear hnb HSF
    go_wp2_with fail
    refine HNU.out.mono ?_
    rintro e w8 ⟨rfl, hw⟩
    rw [hw]
    clear hw
    go_wp2_with fail
    refine (HFA.out _ _ H3.out).mono ?_
    rintro e W0 ⟨rfl, h4⟩
    rw [← HS2.out] at h4
    have H4 := hid h4
    clear h4
    have S4 := hid (readWho_any b p [.int .i64 A, .int .i64 B, .int .i64 C] t sf w0 W0 H4.out HLL.out)
    go_wp2_with fail
    refine S4.out.mono ?_
    rintro e w9 ⟨rfl, sl, h9, ho9⟩
    have H9 := hid (And.intro h9 ho9)
    clear h9 ho9 S4
    go_wp2
    first | go_end0 | refine bodyPost_ret (results_none rfl _ _ _) rfl ?_
    exact ⟨rfl, sl, H9.out.1, H9.out.2⟩
  · rw [hnb] at HNU
    have HS2 : Hid (sf = cs) := by have := HSF.out; rw [hnb] at this; exact this
    clear hnb HSF
    go_wp2_with fail
    refine HNU.out.mono ?_
    rintro e w8 ⟨rfl, hw⟩
    rw [hw]
    clear hw
    obtain ⟨W0, hW0⟩ : ∃ x, w3.setCell ⟨b, 7, none⟩ (.int .i64 C) = x := ⟨_, rfl⟩
    rw [hW0, ← HS2.out] at H3
    rw [hW0]
    have H4 := H3
    clear hW0 HNU
    have S4 := hid (readWho_any b p [.int .i64 A, .int .i64 B, .int .i64 C] t sf w0 W0 H4.out HLL.out)
    go_wp2_with fail
    refine S4.out.mono ?_
    rintro e w9 ⟨rfl, sl, h9, ho9⟩
    have H9 := hid (And.intro h9 ho9)
    clear h9 ho9 S4
    go_wp2
    first | go_end0 | refine bodyPost_ret (results_none rfl _ _ _) rfl ?_
    exact ⟨rfl, sl, H9.out.1, H9.out.2⟩
end Go.Proofs.YtfcbjcebkahehaaGreatDoor
namespace Go.Proofs.YtfcbjcebkahehaaGreatDoor
open Go.RowKit
/-- what ParseMark tells -/
def pmP (f : Int) (b : List UInt8) : MarkP × Int := if f ≠ 1296126539 then (nulM, 112) else match readM b with | none => (nulM, 111) | some m => (m, 0)
def MarkPost (r : MarkP × Int) (w : World) (e : Ending) (w' : World) : Prop :=
  ∃ a cap, e = .returned (.tuple #[.agg #[.int .i64 r.1.inst, .int .i64 r.1.seq, .int .i64 r.1.water, .int .i64 r.1.sys.stamp, .string ⟨r.1.sys.machine.toArray⟩, .int .i64 r.1.sys.user, .int .i64 r.1.sys.group, .slice a r.1.sys.groups.length cap], .int .i64 r.2]) ∧ OwnI w' w.heap.size (.slice a r.1.sys.groups.length cap) r.1.sys.groups ∧ Below w.heap.size w w'
theorem readM_done (b : List UInt8) : readM b = if rdDone (rdSys (rdM3 ⟨b, 0⟩).st).2.l (rdSys (rdM3 ⟨b, 0⟩).st).2.e = 0 then some ⟨(rdM3 ⟨b, 0⟩).i, (rdM3 ⟨b, 0⟩).q, (rdM3 ⟨b, 0⟩).u, (rdSys (rdM3 ⟨b, 0⟩).st).1⟩ else none := by
  have e1 : rdMark ⟨b, 0⟩ = (⟨(rdM3 ⟨b, 0⟩).i, (rdM3 ⟨b, 0⟩).q, (rdM3 ⟨b, 0⟩).u, (rdSys (rdM3 ⟨b, 0⟩).s).1⟩, (rdSys (rdM3 ⟨b, 0⟩).s).2) := rfl
  unfold readM
  rw [e1]
  generalize rdM3 ⟨b, 0⟩ = m
  obtain ⟨i, q, u, st⟩ := m
  unfold M3.st
  simp only
  cases hn : numsB i q u
  · have hmay : ¬ MarkP.may ⟨i, q, u, (rdSys st).1⟩ := fun x => by
      have := ((may_iff _).1 x).1
      rw [hn] at this; cases this
    rw [if_neg (fun x => hmay x.2), if_neg]
    intro x
    rw [if_neg (by decide)] at x
    have hne : (if st.e = 0 then (111 : Int) else st.e) ≠ 0 := by
      by_cases h0 : st.e = 0
      · rw [if_pos h0]; decide
      · rw [if_neg h0]; exact h0
    generalize (if st.e = 0 then (111 : Int) else st.e) = E at x hne
    have h2 : (rdSys ⟨st.l, E⟩).2.e ≠ 0 := fun y => hne (sys_back _ y).1
    unfold rdDone at x
    rw [if_neg (fun y => h2 y.1)] at x
    exact h2 x
  · rw [if_pos rfl]
    unfold rdDone
    by_cases he : (rdSys st).2.e = 0
    · have hm : MarkP.may ⟨i, q, u, (rdSys st).1⟩ := (may_iff _).2 ⟨hn, (sys_back st he).2.1⟩
      by_cases hl : (rdSys st).2.l = []
      · simp [he, hl, hm]
      · simp [he, hl]
    · simp [he]
set_option maxRecDepth 4000 in
theorem parseMark_flavor (f : Int) (b : List UInt8) (w : World) (hf : f ≠ 1296126539) :
    Calls Tryz.prog 165 #[.agg #[.int .i64 f, .string ⟨b.toArray⟩]] w (MarkPost (nulM, 112) w) := by
  have hf1 : (f != 1296126539) = true := bne_iff_ne.2 hf
  have hf2 : ¬ f = 1296126539 := hf
  clear hf
  go_enter Tryz.func165, Tryz.ntmps165
  go_wp2
  have HZ := Bk.new (w.alloc (.cells #[.int .i64 f, .string ⟨b.toArray⟩] 44)) [.int .i64 0, .int .i64 0, .int .i64 0, .int .i64 0, .string ⟨#[]⟩, .int .i64 0, .int .i64 0, .slice none 0 0] 131
  have hz : (w.alloc (.cells #[.int .i64 f, .string ⟨b.toArray⟩] 44)).heap.size = w.heap.size + 1 := by simp
  rw [hz] at HZ
  have q0 := HZ.cell 0 rfl
  have q1 := HZ.cell 1 rfl
  have q2 := HZ.cell 2 rfl
  have q3 := HZ.cell 3 rfl
  have q4 := HZ.cell 4 rfl
  have q5 := HZ.cell 5 rfl
  have q6 := HZ.cell 6 rfl
  have q7 := HZ.cell 7 rfl
  refine bodyPost_ret (v := .tuple #[.agg #[.int .i64 0, .int .i64 0, .int .i64 0, .int .i64 0, .string ⟨#[]⟩, .int .i64 0, .int .i64 0, .slice none 0 0], .int .i64 112]) (by simp [results, Tryz.results165, go_sem, q0, q1, q2, q3, q4, q5, q6, q7]) rfl ⟨none, 0, rfl, OwnI.nil _ _, (below_new _ _).alloc (by simp) _⟩
set_option maxRecDepth 4000 in
set_option maxHeartbeats 1000000 in
theorem parseMark_one (b : List UInt8) (w : World) (hT : ErrT w) (hl : b.length ≤ 281474976710656) :
    Calls Tryz.prog 165 #[.agg #[.int .i64 1296126539, .string ⟨b.toArray⟩]] w (MarkPost (pmP 1296126539 b) w) := by
  obtain ⟨w2, hw2⟩ : ∃ x, x = (w.alloc (.cells #[.int .i64 1296126539, .string ⟨b.toArray⟩] 44)).alloc (.cells #[.int .i64 0, .int .i64 0, .int .i64 0, .int .i64 0, .string ⟨#[]⟩, .int .i64 0, .int .i64 0, .slice none 0 0] 131) := ⟨_, rfl⟩
  have HW2 := hid hw2
  have H2 := hid (two_start [.int .i64 1296126539, .string ⟨b.toArray⟩] [.int .i64 0, .int .i64 0, .int .i64 0, .int .i64 0, .string ⟨#[]⟩, .int .i64 0, .int .i64 0, .slice none 0 0] _ _ w w2 hw2)
  have HT2 := hid (hT.below H2.out.2.1)
  have HN := hid (fun w => rnew_rd b w)
  have HL := hid hl
  obtain ⟨d, hd⟩ : ∃ d, rdDone (rdSys (rdM3 ⟨b, 0⟩).st).2.l (rdSys (rdM3 ⟨b, 0⟩).st).2.e = d := ⟨_, rfl⟩
  have HD := hid hd
  obtain ⟨R, hR⟩ : ∃ R, pmP 1296126539 b = R := ⟨_, rfl⟩
  have HR : Hid (R = if d = 0 then (⟨(rdM3 ⟨b, 0⟩).i, (rdM3 ⟨b, 0⟩).q, (rdM3 ⟨b, 0⟩).u, (rdSys (rdM3 ⟨b, 0⟩).st).1⟩, 0) else (nulM, 111)) := by
    show R = _
    rw [← hR]
    unfold pmP
    rw [if_neg (by simp), readM_done, hd]
    by_cases h0 : d = 0
    · rw [if_pos h0, if_pos h0]
    · rw [if_neg h0, if_neg h0]
  rw [hR]
  clear hT hl hw2 hd hR
  go_enter Tryz.func165, Tryz.ntmps165
  go_wp2_with fail
  refine (HN.out _).mono ?_
  rintro e w4 ⟨rfl, h4⟩
  rw [← HW2.out] at h4
  have H4 := hid (At.start b ([.int .i64 0, .string ⟨#[]⟩, .int .i64 0, .int .i64 0, .slice none 0 0] ++ [.int .i64 0, .int .i64 0, .int .i64 0]) _ w2 w4 h4)
  have HS := hid (mread_any w2.heap.size (w2.heap.size + 1) _ ⟨b, 0⟩ w2 w4 H4.out.1 HL.out)
  rw [H2.out.2.2] at HS
  clear h4
  go_wp2_with fail
  refine HS.out.mono ?_
  rintro e w5 ⟨rfl, sl, h5, ho5⟩
  obtain ⟨oa, cap, hsl⟩ := ho5.form
  subst hsl
  have H5 := hid (And.intro h5 ho5)
  have HDN := hid (rdone_rd _ _ _ w5 h5.r (HT2.out.below (by rw [H2.out.2.2]; exact h5.low)))
  rw [HD.out] at HDN
  clear h5 ho5 HS
  go_wp2_with fail
  refine HDN.out.mono ?_
  rintro e w6 ⟨rfl, hB6⟩
  have h56 := H5.out.1
  have hz5 := h56.k.lt
  have hr := h56.r.lt
  have HK : Hid (Bk w6 (w.heap.size + 1) [.int .i64 0, .int .i64 0, .int .i64 0, .int .i64 0, .string ⟨#[]⟩, .int .i64 0, .int .i64 0, .slice none 0 0] 131) := (H2.out.1.below h56.low (by have := H2.out.2.2; omega)).below hB6 (by omega)
  have HC := hid (h56.k.below hB6 hz5)
  have HB : Hid (Below w.heap.size w w6) := (H2.out.2.1.trans (h56.low.mono (by omega))).trans (hB6.mono (by omega))
  have HO := hid ((H5.out.2.of_blocks (w' := w6) (fun g hg => hB6.block g (H5.out.2.lt g hg).2)).mono (show w.heap.size + 1 + 1 ≤ w.heap.size + 1 + 1 + 1 + 1 by omega))
  have HZ6 : Hid (w.heap.size + 1 + 1 + 1 < w6.heap.size) := Nat.lt_of_lt_of_le hr hB6.size
  clear h56 hz5 hr hB6 HDN H5
  generalize rdM3 ⟨b, 0⟩ = m at *
  generalize (rdSys m.st).1 = s at *
  obtain ⟨i, q, u, sx⟩ := m
  obtain ⟨st, mc, us, gr, gs⟩ := s
  simp only at *
  by_cases h0 : d = 0
  · have hR := HR.out
    rw [if_pos h0] at hR
    subst hR
    clear HR
    have HTO := hid (told_any (w.heap.size + 1 + 1) st us gr i q u mc oa gs.length cap w6 HC.out)
    subst h0
    go_wp2_with fail
    refine HTO.out.mono ?_
    rintro e w7 ⟨rfl, hB7⟩
    have hz6 := HZ6.out
    have HK7 : Hid (Bk w7 (w.heap.size + 1) [.int .i64 0, .int .i64 0, .int .i64 0, .int .i64 0, .string ⟨#[]⟩, .int .i64 0, .int .i64 0, .slice none 0 0] 131) := HK.out.below hB7 (by omega)
    have HB7 : Hid (Below w.heap.size w w7) := HB.out.trans (hB7.mono (by omega))
    have HO7 : Hid (OwnI w7 (w.heap.size + 1 + 1) (.slice oa gs.length cap) gs) := HO.out.of_blocks (fun g hg => hB7.block g (HO.out.lt g hg).2)
    clear hB7 hz6 HTO
    have k0 := HK7.out.cell 0 rfl
    have f0 := HK7.out.frozen 0
    have k1 := HK7.out.cell 1 rfl
    have f1 := HK7.out.frozen 1
    have k2 := HK7.out.cell 2 rfl
    have f2 := HK7.out.frozen 2
    have k3 := HK7.out.cell 3 rfl
    have f3 := HK7.out.frozen 3
    have k4 := HK7.out.cell 4 rfl
    have f4 := HK7.out.frozen 4
    have k5 := HK7.out.cell 5 rfl
    have f5 := HK7.out.frozen 5
    have k6 := HK7.out.cell 6 rfl
    have f6 := HK7.out.frozen 6
    have k7 := HK7.out.cell 7 rfl
    have f7 := HK7.out.frozen 7
    have HZ := HK7.out.set8 (.int .i64 i) (.int .i64 q) (.int .i64 u) (.int .i64 st) (.string ⟨mc.toArray⟩) (.int .i64 us) (.int .i64 gr) (.slice oa gs.length cap)
    have q0 := HZ.cell 0 rfl
    have q1 := HZ.cell 1 rfl
    have q2 := HZ.cell 2 rfl
    have q3 := HZ.cell 3 rfl
    have q4 := HZ.cell 4 rfl
    have q5 := HZ.cell 5 rfl
    have q6 := HZ.cell 6 rfl
    have q7 := HZ.cell 7 rfl
    have HE := hid ((HO7.out.of_blocks (fun g hg => set8_ne w7 (w.heap.size + 1) g (.int .i64 i) (.int .i64 q) (.int .i64 u) (.int .i64 st) (.string ⟨mc.toArray⟩) (.int .i64 us) (.int .i64 gr) (.slice oa gs.length cap) (by have := (HO7.out.lt g hg).1; omega))).mono (show w.heap.size ≤ w.heap.size + 1 + 1 by omega))
    have HB8 := hid (below_set8 (b := w.heap.size + 1) HB7.out (by omega) (.int .i64 i) (.int .i64 q) (.int .i64 u) (.int .i64 st) (.string ⟨mc.toArray⟩) (.int .i64 us) (.int .i64 gr) (.slice oa gs.length cap))
    clear HZ
    go_wp2
    exact bodyPost_ret (v := .tuple #[.agg #[.int .i64 i, .int .i64 q, .int .i64 u, .int .i64 st, .string ⟨mc.toArray⟩, .int .i64 us, .int .i64 gr, .slice oa gs.length cap], .int .i64 0]) (by simp [results, Tryz.results165, go_sem, q0, q1, q2, q3, q4, q5, q6, q7]) rfl ⟨_, _, rfl, HE.out, HB8.out⟩
  · have hR := HR.out
    rw [if_neg h0] at hR
    subst hR
    clear HR
    have h1 : (d != 0) = true := bne_iff_ne.2 h0
    have k0 := HK.out.cell 0 rfl
    have f0 := HK.out.frozen 0
    have k1 := HK.out.cell 1 rfl
    have f1 := HK.out.frozen 1
    have k2 := HK.out.cell 2 rfl
    have f2 := HK.out.frozen 2
    have k3 := HK.out.cell 3 rfl
    have f3 := HK.out.frozen 3
    have k4 := HK.out.cell 4 rfl
    have f4 := HK.out.frozen 4
    have k5 := HK.out.cell 5 rfl
    have f5 := HK.out.frozen 5
    have k6 := HK.out.cell 6 rfl
    have f6 := HK.out.frozen 6
    have k7 := HK.out.cell 7 rfl
    have f7 := HK.out.frozen 7
    have HZ := HK.out.set8 (.int .i64 0) (.int .i64 0) (.int .i64 0) (.int .i64 0) (.string ⟨#[]⟩) (.int .i64 0) (.int .i64 0) (.slice none 0 0)
    have q0 := HZ.cell 0 rfl
    have q1 := HZ.cell 1 rfl
    have q2 := HZ.cell 2 rfl
    have q3 := HZ.cell 3 rfl
    have q4 := HZ.cell 4 rfl
    have q5 := HZ.cell 5 rfl
    have q6 := HZ.cell 6 rfl
    have q7 := HZ.cell 7 rfl
    have HB7 := hid (below_set8 (b := w.heap.size + 1) HB.out (by omega) (.int .i64 0) (.int .i64 0) (.int .i64 0) (.int .i64 0) (.string ⟨#[]⟩) (.int .i64 0) (.int .i64 0) (.slice none 0 0))
    clear HZ
    go_wp2
    exact bodyPost_ret (v := .tuple #[.agg #[.int .i64 0, .int .i64 0, .int .i64 0, .int .i64 0, .string ⟨#[]⟩, .int .i64 0, .int .i64 0, .slice none 0 0], .int .i64 111]) (by simp [results, Tryz.results165, go_sem, q0, q1, q2, q3, q4, q5, q6, q7]) rfl ⟨none, 0, rfl, OwnI.nil _ _, HB7.out⟩
theorem parseMark_any (f : Int) (b : List UInt8) (w : World) (hT : ErrT w) (hl : b.length ≤ 281474976710656) :
    Calls Tryz.prog 165 #[.agg #[.int .i64 f, .string ⟨b.toArray⟩]] w (MarkPost (pmP f b) w) := by
  by_cases hf : f = 1296126539
  · subst hf; exact parseMark_one b w hT hl
  · have : pmP f b = (nulM, 112) := by unfold pmP; rw [if_pos hf]
    rw [this]; exact parseMark_flavor f b w hf
end Go.Proofs.YtfcbjcebkahehaaGreatDoor
namespace Go.Proofs.YtfcbjcebkahehaaGreatDoor
open Go.RowKit
def bad (g : Bool) : Int := if g then 0 else 1
theorem badUnless_any (g : Bool) (w : World) : Calls Tryz.prog 163 #[.bool g] w fun e w' => e = .returned (.int .i64 (bad g)) ∧ w' = w := by
  cases g
  · go_enter Tryz.func163, Tryz.ntmps163
    go_wp2
    go_ret
    exact ⟨rfl, rfl⟩
  · go_enter Tryz.func163, Tryz.ntmps163
    go_wp2
    go_ret
    exact ⟨rfl, rfl⟩
def nob (f : Int) (s : ByteArray) : Bool := (f == 0) && (s.toList == [])
theorem isNobody_any (f : Int) (s : ByteArray) (w : World) : Calls Tryz.prog 131 #[.agg #[.int .i64 f, .string s]] w fun e w' => e = .returned (.bool (nob f s)) ∧ Below w.heap.size w w' := by
  unfold nob
  cases h0 : (f == 0)
  · have h1 : ¬ f = 0 := by simpa using h0
    go_enter Tryz.func131, Tryz.ntmps131
    go_wp2
    go_ret
    exact ⟨rfl, below_new _ _⟩
  · obtain rfl : f = 0 := by simpa using h0
    cases h1 : (s.toList == [])
    · go_enter Tryz.func131, Tryz.ntmps131
      go_wp2
      go_ret
      exact ⟨rfl, below_new _ _⟩
    · go_enter Tryz.func131, Tryz.ntmps131
      go_wp2
      go_ret
      exact ⟨rfl, below_new _ _⟩
end Go.Proofs.YtfcbjcebkahehaaGreatDoor
namespace Go.Proofs.YtfcbjcebkahehaaGreatDoor
open Go.RowKit
def J3Post (r : MarkP × Bool × Int) (w : World) (e : Ending) (w' : World) : Prop :=
  ∃ a cap, e = .returned (.tuple #[.agg #[.int .i64 r.1.inst, .int .i64 r.1.seq, .int .i64 r.1.water, .int .i64 r.1.sys.stamp, .string ⟨r.1.sys.machine.toArray⟩, .int .i64 r.1.sys.user, .int .i64 r.1.sys.group, .slice a r.1.sys.groups.length cap], .bool r.2.1, .int .i64 r.2.2]) ∧ OwnI w' w.heap.size (.slice a r.1.sys.groups.length cap) r.1.sys.groups ∧ Below w.heap.size w w'
def markOk (r : MarkP × Int) (xid : Int) : Bool := (r.2 == 0) && ((r.1.seq == xid) && decide (r.1.water ≤ r.1.seq))
/-- what judgeCred tells -/
def jcP (f : Int) (b : List UInt8) (xid : Int) : MarkP × Bool × Int :=
  if f = 0 then (nulM, false, bad (nob 0 ⟨b.toArray⟩)) else if f = 1 then (nulM, false, bad ((psP 1 b).2 == 0)) else if f = 1296126539 then ((pmP f b).1, true, bad (markOk (pmP f b) xid)) else (nulM, false, 2)
set_option maxRecDepth 4000 in
theorem judge_none (b : List UInt8) (xid : Int) (w : World) :
    Calls Tryz.prog 130 #[.agg #[.int .i64 0, .string ⟨b.toArray⟩], .int .i64 xid] w (J3Post (nulM, false, bad (nob 0 ⟨b.toArray⟩)) w) := by
  obtain ⟨w2, hw2⟩ : ∃ x, x = (w.alloc (.cells #[.int .i64 0, .string ⟨b.toArray⟩] 44)).alloc (.cells #[.int .i64 0, .int .i64 0, .int .i64 0, .int .i64 0, .string ⟨#[]⟩, .int .i64 0, .int .i64 0, .slice none 0 0] 131) := ⟨_, rfl⟩
  have HW2 : Hid ((w.alloc (.cells #[.int .i64 0, .string ⟨b.toArray⟩] 44)).alloc (.cells #[.int .i64 0, .int .i64 0, .int .i64 0, .int .i64 0, .string ⟨#[]⟩, .int .i64 0, .int .i64 0, .slice none 0 0] 131) = w2) := hw2.symm
  have H2 := hid (two_start [.int .i64 0, .string ⟨b.toArray⟩] [.int .i64 0, .int .i64 0, .int .i64 0, .int .i64 0, .string ⟨#[]⟩, .int .i64 0, .int .i64 0, .slice none 0 0] _ _ w w2 hw2)
  have HI := hid (isNobody_any 0 ⟨b.toArray⟩ w2)
  have HBU := hid (fun w => badUnless_any (nob 0 ⟨b.toArray⟩) w)
  generalize bad (nob 0 ⟨b.toArray⟩) = V at HBU ⊢
  generalize nob 0 ⟨b.toArray⟩ = g at HI HBU
  clear hw2
  go_enter Tryz.func130, Tryz.ntmps130
  go_wp2_with fail
  rw [HW2.out]
  refine HI.out.mono ?_
  rintro e w3 ⟨rfl, hB3⟩
  have HB3 := hid hB3
  clear hB3
  go_wp2_with fail
  refine (HBU.out _).mono ?_
  rintro e w4 ⟨rfl, hw⟩
  rw [hw]
  clear hw
  have HK : Hid (Bk w3 (w.heap.size + 1) [.int .i64 0, .int .i64 0, .int .i64 0, .int .i64 0, .string ⟨#[]⟩, .int .i64 0, .int .i64 0, .slice none 0 0] 131) := H2.out.1.below HB3.out (by have := H2.out.2.2; omega)
  have HB : Hid (Below w.heap.size w w3) := H2.out.2.1.trans (HB3.out.mono (by have := H2.out.2.2; omega))
  have k0 := HK.out.cell 0 rfl
  have f0 := HK.out.frozen 0
  have k1 := HK.out.cell 1 rfl
  have f1 := HK.out.frozen 1
  have k2 := HK.out.cell 2 rfl
  have f2 := HK.out.frozen 2
  have k3 := HK.out.cell 3 rfl
  have f3 := HK.out.frozen 3
  have k4 := HK.out.cell 4 rfl
  have f4 := HK.out.frozen 4
  have k5 := HK.out.cell 5 rfl
  have f5 := HK.out.frozen 5
  have k6 := HK.out.cell 6 rfl
  have f6 := HK.out.frozen 6
  have k7 := HK.out.cell 7 rfl
  have f7 := HK.out.frozen 7
  have HZ := HK.out.set8 (.int .i64 0) (.int .i64 0) (.int .i64 0) (.int .i64 0) (.string ⟨#[]⟩) (.int .i64 0) (.int .i64 0) (.slice none 0 0)
  have q0 := HZ.cell 0 rfl
  have q1 := HZ.cell 1 rfl
  have q2 := HZ.cell 2 rfl
  have q3 := HZ.cell 3 rfl
  have q4 := HZ.cell 4 rfl
  have q5 := HZ.cell 5 rfl
  have q6 := HZ.cell 6 rfl
  have q7 := HZ.cell 7 rfl
  have HB7 := hid (below_set8 (b := w.heap.size + 1) HB.out (by omega) (.int .i64 0) (.int .i64 0) (.int .i64 0) (.int .i64 0) (.string ⟨#[]⟩) (.int .i64 0) (.int .i64 0) (.slice none 0 0))
  clear HZ
  go_wp2
  exact bodyPost_ret (v := .tuple #[.agg #[.int .i64 0, .int .i64 0, .int .i64 0, .int .i64 0, .string ⟨#[]⟩, .int .i64 0, .int .i64 0, .slice none 0 0], .bool false, .int .i64 V]) (by simp [results, Tryz.results130, go_sem, q0, q1, q2, q3, q4, q5, q6, q7]) rfl ⟨none, 0, rfl, OwnI.nil _ _, HB7.out⟩
set_option maxRecDepth 4000 in
theorem judge_other (f : Int) (b : List UInt8) (xid : Int) (w : World) (h0 : f ≠ 0) (h1 : f ≠ 1) (h2 : f ≠ 1296126539) :
    Calls Tryz.prog 130 #[.agg #[.int .i64 f, .string ⟨b.toArray⟩], .int .i64 xid] w (J3Post (nulM, false, 2) w) := by
  have e0 : (f == 0) = false := by simpa using h0
  have e1 : (f == 1) = false := by simpa using h1
  have e2 : (f == 1296126539) = false := by simpa using h2
  clear h0 h1 h2
  go_enter Tryz.func130, Tryz.ntmps130
  go_wp2
  have hs := two_start [.int .i64 f, .string ⟨b.toArray⟩] [.int .i64 0, .int .i64 0, .int .i64 0, .int .i64 0, .string ⟨#[]⟩, .int .i64 0, .int .i64 0, .slice none 0 0] 44 131 w _ rfl
  have HZ := hs.1
  have q0 := HZ.cell 0 rfl
  have q1 := HZ.cell 1 rfl
  have q2 := HZ.cell 2 rfl
  have q3 := HZ.cell 3 rfl
  have q4 := HZ.cell 4 rfl
  have q5 := HZ.cell 5 rfl
  have q6 := HZ.cell 6 rfl
  have q7 := HZ.cell 7 rfl
  exact bodyPost_ret (v := .tuple #[.agg #[.int .i64 0, .int .i64 0, .int .i64 0, .int .i64 0, .string ⟨#[]⟩, .int .i64 0, .int .i64 0, .slice none 0 0], .bool false, .int .i64 2]) (by simp [results, Tryz.results130, go_sem, q0, q1, q2, q3, q4, q5, q6, q7]) rfl ⟨none, 0, rfl, OwnI.nil _ _, hs.2.1⟩
set_option maxRecDepth 4000 in
theorem judge_sys (b : List UInt8) (xid : Int) (w : World) (hT : ErrT w) (hl : b.length ≤ 281474976710656) :
    Calls Tryz.prog 130 #[.agg #[.int .i64 1, .string ⟨b.toArray⟩], .int .i64 xid] w (J3Post (nulM, false, bad ((psP 1 b).2 == 0)) w) := by
  obtain ⟨w2, hw2⟩ : ∃ x, x = (w.alloc (.cells #[.int .i64 1, .string ⟨b.toArray⟩] 44)).alloc (.cells #[.int .i64 0, .int .i64 0, .int .i64 0, .int .i64 0, .string ⟨#[]⟩, .int .i64 0, .int .i64 0, .slice none 0 0] 131) := ⟨_, rfl⟩
  have HW2 : Hid ((w.alloc (.cells #[.int .i64 1, .string ⟨b.toArray⟩] 44)).alloc (.cells #[.int .i64 0, .int .i64 0, .int .i64 0, .int .i64 0, .string ⟨#[]⟩, .int .i64 0, .int .i64 0, .slice none 0 0] 131) = w2) := hw2.symm
  have H2 := hid (two_start [.int .i64 1, .string ⟨b.toArray⟩] [.int .i64 0, .int .i64 0, .int .i64 0, .int .i64 0, .string ⟨#[]⟩, .int .i64 0, .int .i64 0, .slice none 0 0] _ _ w w2 hw2)
  have HS := hid (parseSys_any 1 b w2 (hT.below H2.out.2.1) hl)
  generalize psP 1 b = R at HS ⊢
  obtain ⟨⟨st, mc, us, gr, gs⟩, er⟩ := R
  have HBU := hid (fun w => badUnless_any (er == 0) w)
  simp only
  generalize bad (er == 0) = V at HBU ⊢
  obtain ⟨g, hg⟩ : ∃ g, (er == 0) = g := ⟨_, rfl⟩
  rw [hg] at HBU
  clear hw2 hT hl
  go_enter Tryz.func130, Tryz.ntmps130
  go_wp2_with fail
  rw [HW2.out]
  refine HS.out.mono ?_
  rintro e w3 ⟨oa, cap, rfl, _, hB3⟩
  have HB3 := hid hB3
  clear hB3
  simp only
  go_wp2_with fail
  obtain ⟨w4, hw4⟩ : ∃ x, x = w3.alloc (.cells #[.int .i64 st, .string ⟨mc.toArray⟩, .int .i64 us, .int .i64 gr, .slice oa gs.length cap] 26) := ⟨_, rfl⟩
  rw [← hw4]
  have HB4 : Hid (Below w3.heap.size w3 w4) := by rw [hw4]; exact below_new _ _
  clear hw4
  refine (HBU.out _).mono ?_
  rintro e w5 ⟨rfl, hw⟩
  rw [hw]
  clear hw
  have HK : Hid (Bk w4 (w.heap.size + 1) [.int .i64 0, .int .i64 0, .int .i64 0, .int .i64 0, .string ⟨#[]⟩, .int .i64 0, .int .i64 0, .slice none 0 0] 131) := (H2.out.1.below HB3.out (by have := H2.out.2.2; omega)).below HB4.out (by have := H2.out.2.2; have := HB3.out.size; omega)
  have HB : Hid (Below w.heap.size w w4) := (H2.out.2.1.trans (HB3.out.mono (by have := H2.out.2.2; omega))).trans (HB4.out.mono (by have := H2.out.2.2; have := HB3.out.size; omega))
  have k0 := HK.out.cell 0 rfl
  have f0 := HK.out.frozen 0
  have k1 := HK.out.cell 1 rfl
  have f1 := HK.out.frozen 1
  have k2 := HK.out.cell 2 rfl
  have f2 := HK.out.frozen 2
  have k3 := HK.out.cell 3 rfl
  have f3 := HK.out.frozen 3
  have k4 := HK.out.cell 4 rfl
  have f4 := HK.out.frozen 4
  have k5 := HK.out.cell 5 rfl
  have f5 := HK.out.frozen 5
  have k6 := HK.out.cell 6 rfl
  have f6 := HK.out.frozen 6
  have k7 := HK.out.cell 7 rfl
  have f7 := HK.out.frozen 7
  have HZ := HK.out.set8 (.int .i64 0) (.int .i64 0) (.int .i64 0) (.int .i64 0) (.string ⟨#[]⟩) (.int .i64 0) (.int .i64 0) (.slice none 0 0)
  have q0 := HZ.cell 0 rfl
  have q1 := HZ.cell 1 rfl
  have q2 := HZ.cell 2 rfl
  have q3 := HZ.cell 3 rfl
  have q4 := HZ.cell 4 rfl
  have q5 := HZ.cell 5 rfl
  have q6 := HZ.cell 6 rfl
  have q7 := HZ.cell 7 rfl
  have HB7 := hid (below_set8 (b := w.heap.size + 1) HB.out (by omega) (.int .i64 0) (.int .i64 0) (.int .i64 0) (.int .i64 0) (.string ⟨#[]⟩) (.int .i64 0) (.int .i64 0) (.slice none 0 0))
  clear HZ
  go_wp2
  exact bodyPost_ret (v := .tuple #[.agg #[.int .i64 0, .int .i64 0, .int .i64 0, .int .i64 0, .string ⟨#[]⟩, .int .i64 0, .int .i64 0, .slice none 0 0], .bool false, .int .i64 V]) (by simp [results, Tryz.results130, go_sem, q0, q1, q2, q3, q4, q5, q6, q7]) rfl ⟨none, 0, rfl, OwnI.nil _ _, HB7.out⟩
end Go.Proofs.YtfcbjcebkahehaaGreatDoor
namespace Go.Proofs.YtfcbjcebkahehaaGreatDoor
open Go.RowKit
set_option maxRecDepth 4000 in
set_option maxHeartbeats 8000000 in
theorem judge_mark_a (b : List UInt8) (xid : Int) (w : World) (hT : ErrT w) (hl : b.length ≤ 281474976710656) (e1 : ((pmP 1296126539 b).2 == 0) = false) :
    Calls Tryz.prog 130 #[.agg #[.int .i64 1296126539, .string ⟨b.toArray⟩], .int .i64 xid] w (J3Post ((pmP 1296126539 b).1, true, bad (markOk (pmP 1296126539 b) xid)) w) := by
  obtain ⟨w2, hw2⟩ : ∃ x, x = (w.alloc (.cells #[.int .i64 1296126539, .string ⟨b.toArray⟩] 44)).alloc (.cells #[.int .i64 0, .int .i64 0, .int .i64 0, .int .i64 0, .string ⟨#[]⟩, .int .i64 0, .int .i64 0, .slice none 0 0] 131) := ⟨_, rfl⟩
  have HW2 : Hid ((w.alloc (.cells #[.int .i64 1296126539, .string ⟨b.toArray⟩] 44)).alloc (.cells #[.int .i64 0, .int .i64 0, .int .i64 0, .int .i64 0, .string ⟨#[]⟩, .int .i64 0, .int .i64 0, .slice none 0 0] 131) = w2) := hw2.symm
  have H2 := hid (two_start [.int .i64 1296126539, .string ⟨b.toArray⟩] [.int .i64 0, .int .i64 0, .int .i64 0, .int .i64 0, .string ⟨#[]⟩, .int .i64 0, .int .i64 0, .slice none 0 0] _ _ w w2 hw2)
  have HS := hid (parseMark_any 1296126539 b w2 (hT.below H2.out.2.1) hl)
  generalize pmP 1296126539 b = R at HS e1 ⊢
  obtain ⟨⟨i, q, u, st, mc, us, gr, gs⟩, er⟩ := R
  obtain ⟨g, hg⟩ : ∃ g, markOk (⟨i, q, u, st, mc, us, gr, gs⟩, er) xid = g := ⟨_, rfl⟩
  rw [hg]
  have HBU := hid (fun w => badUnless_any g w)
  have HG : Hid (((er == 0) && ((q == xid) && decide (u ≤ q))) = g) := hg
  simp only
  generalize bad g = V at HBU ⊢
  clear hw2 hT hl hg
  go_enter Tryz.func130, Tryz.ntmps130
  go_wp2_with fail
  rw [HW2.out]
  refine HS.out.mono ?_
  rintro e w3 ⟨oa, cap, rfl, ho3, hB3⟩
  have HB3 := hid hB3
  have HO3 := hid ho3
  clear hB3 ho3
  simp only
  go_wp2_with fail
  obtain ⟨w4, hw4⟩ : ∃ x, x = w3.alloc (.cells #[.int .i64 i, .int .i64 q, .int .i64 u, .int .i64 st, .string ⟨mc.toArray⟩, .int .i64 us, .int .i64 gr, .slice oa gs.length cap] 131) := ⟨_, rfl⟩
  rw [← hw4]
  have hB4 : Below w3.heap.size w3 w4 := by rw [hw4]; exact below_new _ _
  have hL : Bk w4 w3.heap.size [.int .i64 i, .int .i64 q, .int .i64 u, .int .i64 st, .string ⟨mc.toArray⟩, .int .i64 us, .int .i64 gr, .slice oa gs.length cap] 131 := by rw [hw4]; exact Bk.new _ _ _
  have hz := H2.out.2.2
  have hz3 := HB3.out.size
  have hK : Bk w4 (w.heap.size + 1) [.int .i64 0, .int .i64 0, .int .i64 0, .int .i64 0, .string ⟨#[]⟩, .int .i64 0, .int .i64 0, .slice none 0 0] 131 := (H2.out.1.below HB3.out (by omega)).below hB4 (by omega)
  have HB : Hid (Below w.heap.size w w4) := (H2.out.2.1.trans (HB3.out.mono (by omega))).trans (hB4.mono (by omega))
  have HO : Hid (OwnI w4 (w.heap.size + 1 + 1) (.slice oa gs.length cap) gs) := (HO3.out.of_blocks (fun g hg => hB4.block g (HO3.out.lt g hg).2)).mono (by omega)
  have HNE : Hid (w3.heap.size ≠ w.heap.size + 1) := by show _ ≠ _; omega
  have HK := hid hK
  have HL := hid hL
  have c0 := hL.cell 0 rfl
  have c1 := hL.cell 1 rfl
  have c2 := hL.cell 2 rfl
  have c3 := hL.cell 3 rfl
  have c4 := hL.cell 4 rfl
  have c5 := hL.cell 5 rfl
  have c6 := hL.cell 6 rfl
  have c7 := hL.cell 7 rfl
  have k0 := hK.cell 0 rfl
  have f0 := hK.frozen 0
  have k1 := hK.cell 1 rfl
  have f1 := hK.frozen 1
  have k2 := hK.cell 2 rfl
  have f2 := hK.frozen 2
  have k3 := hK.cell 3 rfl
  have f3 := hK.frozen 3
  have k4 := hK.cell 4 rfl
  have f4 := hK.frozen 4
  have k5 := hK.cell 5 rfl
  have f5 := hK.frozen 5
  have k6 := hK.cell 6 rfl
  have f6 := hK.frozen 6
  have k7 := hK.cell 7 rfl
  have f7 := hK.frozen 7
  clear hw4 hB4 hL hK hz hz3
  rename_i K1 A1 K0 A0
  have HA1 := hid A1
  have HA0 := hid A0
  clear A1 A0 HS HW2 H2 HB3 HO3
  generalize hQ : Exit.then K0 _ = Q0
  have HQ := hid hQ
  clear hQ
  have e1 : (er == 0) = false := e1
  have HG2 : Hid (g = false) := by have := HG.out; rw [e1] at this; exact this.symm
  rw [HG2.out] at HBU
  have e1' : decide (er = 0) = false := by simpa using e1
  clear HG
  go_still_tail 17, (by kernel_rfl)
  still_call (HBU.out _)
  refine wpStill_nil ?_
  obtain ⟨w5, hw5⟩ : ∃ x, x = w4.drew := ⟨_, rfl⟩
  have HK5 : Hid (Bk w5 (w.heap.size + 1) [.int .i64 0, .int .i64 0, .int .i64 0, .int .i64 0, .string ⟨#[]⟩, .int .i64 0, .int .i64 0, .slice none 0 0] 131) := by rw [hw5]; exact HK.out.drew
  have HB5 : Hid (Below w.heap.size w w5) := by rw [hw5]; exact HB.out.drew
  have HO5 : Hid (OwnI w5 (w.heap.size + 1 + 1) (.slice oa gs.length cap) gs) := by rw [hw5]; exact HO.out
  change wpList _ _ _ _ _ w4.drew
  rw [← hw5]
  clear hw5 k0 k1 k2 k3 k4 k5 k6 k7 f0 f1 f2 f3 f4 f5 f6 f7 c0 c1 c2 c3 c4 c5 c6 c7
  have k0 := HK5.out.cell 0 rfl
  have f0 := HK5.out.frozen 0
  have k1 := HK5.out.cell 1 rfl
  have f1 := HK5.out.frozen 1
  have k2 := HK5.out.cell 2 rfl
  have f2 := HK5.out.frozen 2
  have k3 := HK5.out.cell 3 rfl
  have f3 := HK5.out.frozen 3
  have k4 := HK5.out.cell 4 rfl
  have f4 := HK5.out.frozen 4
  have k5 := HK5.out.cell 5 rfl
  have f5 := HK5.out.frozen 5
  have k6 := HK5.out.cell 6 rfl
  have f6 := HK5.out.frozen 6
  have k7 := HK5.out.cell 7 rfl
  have f7 := HK5.out.frozen 7
  have HE := hid ((HO5.out.of_blocks (fun g hg => set8_ne w5 (w.heap.size + 1) g (.int .i64 i) (.int .i64 q) (.int .i64 u) (.int .i64 st) (.string ⟨mc.toArray⟩) (.int .i64 us) (.int .i64 gr) (.slice oa gs.length cap) (by have := (HO5.out.lt g hg).1; omega))).mono (show w.heap.size ≤ w.heap.size + 1 + 1 by omega))
  have HB8 := hid (below_set8 (b := w.heap.size + 1) HB5.out (by omega) (.int .i64 i) (.int .i64 q) (.int .i64 u) (.int .i64 st) (.string ⟨mc.toArray⟩) (.int .i64 us) (.int .i64 gr) (.slice oa gs.length cap))
  have HZ0 := hid (HK5.out.set8 (.int .i64 i) (.int .i64 q) (.int .i64 u) (.int .i64 st) (.string ⟨mc.toArray⟩) (.int .i64 us) (.int .i64 gr) (.slice oa gs.length cap))
  go_wp2_with fail
  rw [← HQ.out]
  have A0 := HA0.out
  have A1 := HA1.out
  go_wp2
  have HZ := HZ0.out
  have q0 := HZ.cell 0 rfl
  have q1 := HZ.cell 1 rfl
  have q2 := HZ.cell 2 rfl
  have q3 := HZ.cell 3 rfl
  have q4 := HZ.cell 4 rfl
  have q5 := HZ.cell 5 rfl
  have q6 := HZ.cell 6 rfl
  have q7 := HZ.cell 7 rfl
  exact bodyPost_ret (v := .tuple #[.agg #[.int .i64 i, .int .i64 q, .int .i64 u, .int .i64 st, .string ⟨mc.toArray⟩, .int .i64 us, .int .i64 gr, .slice oa gs.length cap], .bool true, .int .i64 V]) (by simp [results, Tryz.results130, go_sem, q0, q1, q2, q3, q4, q5, q6, q7]) rfl ⟨_, _, rfl, HE.out, HB8.out⟩
end Go.Proofs.YtfcbjcebkahehaaGreatDoor
namespace Go.Proofs.YtfcbjcebkahehaaGreatDoor
open Go.RowKit
set_option maxRecDepth 4000 in
set_option maxHeartbeats 8000000 in
theorem judge_mark_b (b : List UInt8) (xid : Int) (w : World) (hT : ErrT w) (hl : b.length ≤ 281474976710656) (e1 : ((pmP 1296126539 b).2 == 0) = true) (e2 : ((pmP 1296126539 b).1.seq == xid) = false) :
    Calls Tryz.prog 130 #[.agg #[.int .i64 1296126539, .string ⟨b.toArray⟩], .int .i64 xid] w (J3Post ((pmP 1296126539 b).1, true, bad (markOk (pmP 1296126539 b) xid)) w) := by
  obtain ⟨w2, hw2⟩ : ∃ x, x = (w.alloc (.cells #[.int .i64 1296126539, .string ⟨b.toArray⟩] 44)).alloc (.cells #[.int .i64 0, .int .i64 0, .int .i64 0, .int .i64 0, .string ⟨#[]⟩, .int .i64 0, .int .i64 0, .slice none 0 0] 131) := ⟨_, rfl⟩
  have HW2 : Hid ((w.alloc (.cells #[.int .i64 1296126539, .string ⟨b.toArray⟩] 44)).alloc (.cells #[.int .i64 0, .int .i64 0, .int .i64 0, .int .i64 0, .string ⟨#[]⟩, .int .i64 0, .int .i64 0, .slice none 0 0] 131) = w2) := hw2.symm
  have H2 := hid (two_start [.int .i64 1296126539, .string ⟨b.toArray⟩] [.int .i64 0, .int .i64 0, .int .i64 0, .int .i64 0, .string ⟨#[]⟩, .int .i64 0, .int .i64 0, .slice none 0 0] _ _ w w2 hw2)
  have HS := hid (parseMark_any 1296126539 b w2 (hT.below H2.out.2.1) hl)
  generalize pmP 1296126539 b = R at HS e1 e2 ⊢
  obtain ⟨⟨i, q, u, st, mc, us, gr, gs⟩, er⟩ := R
  obtain ⟨g, hg⟩ : ∃ g, markOk (⟨i, q, u, st, mc, us, gr, gs⟩, er) xid = g := ⟨_, rfl⟩
  rw [hg]
  have HBU := hid (fun w => badUnless_any g w)
  have HG : Hid (((er == 0) && ((q == xid) && decide (u ≤ q))) = g) := hg
  simp only
  generalize bad g = V at HBU ⊢
  clear hw2 hT hl hg
  go_enter Tryz.func130, Tryz.ntmps130
  go_wp2_with fail
  rw [HW2.out]
  refine HS.out.mono ?_
  rintro e w3 ⟨oa, cap, rfl, ho3, hB3⟩
  have HB3 := hid hB3
  have HO3 := hid ho3
  clear hB3 ho3
  simp only
  go_wp2_with fail
  obtain ⟨w4, hw4⟩ : ∃ x, x = w3.alloc (.cells #[.int .i64 i, .int .i64 q, .int .i64 u, .int .i64 st, .string ⟨mc.toArray⟩, .int .i64 us, .int .i64 gr, .slice oa gs.length cap] 131) := ⟨_, rfl⟩
  rw [← hw4]
  have hB4 : Below w3.heap.size w3 w4 := by rw [hw4]; exact below_new _ _
  have hL : Bk w4 w3.heap.size [.int .i64 i, .int .i64 q, .int .i64 u, .int .i64 st, .string ⟨mc.toArray⟩, .int .i64 us, .int .i64 gr, .slice oa gs.length cap] 131 := by rw [hw4]; exact Bk.new _ _ _
  have hz := H2.out.2.2
  have hz3 := HB3.out.size
  have hK : Bk w4 (w.heap.size + 1) [.int .i64 0, .int .i64 0, .int .i64 0, .int .i64 0, .string ⟨#[]⟩, .int .i64 0, .int .i64 0, .slice none 0 0] 131 := (H2.out.1.below HB3.out (by omega)).below hB4 (by omega)
  have HB : Hid (Below w.heap.size w w4) := (H2.out.2.1.trans (HB3.out.mono (by omega))).trans (hB4.mono (by omega))
  have HO : Hid (OwnI w4 (w.heap.size + 1 + 1) (.slice oa gs.length cap) gs) := (HO3.out.of_blocks (fun g hg => hB4.block g (HO3.out.lt g hg).2)).mono (by omega)
  have HNE : Hid (w3.heap.size ≠ w.heap.size + 1) := by show _ ≠ _; omega
  have HK := hid hK
  have HL := hid hL
  have c0 := hL.cell 0 rfl
  have c1 := hL.cell 1 rfl
  have c2 := hL.cell 2 rfl
  have c3 := hL.cell 3 rfl
  have c4 := hL.cell 4 rfl
  have c5 := hL.cell 5 rfl
  have c6 := hL.cell 6 rfl
  have c7 := hL.cell 7 rfl
  have k0 := hK.cell 0 rfl
  have f0 := hK.frozen 0
  have k1 := hK.cell 1 rfl
  have f1 := hK.frozen 1
  have k2 := hK.cell 2 rfl
  have f2 := hK.frozen 2
  have k3 := hK.cell 3 rfl
  have f3 := hK.frozen 3
  have k4 := hK.cell 4 rfl
  have f4 := hK.frozen 4
  have k5 := hK.cell 5 rfl
  have f5 := hK.frozen 5
  have k6 := hK.cell 6 rfl
  have f6 := hK.frozen 6
  have k7 := hK.cell 7 rfl
  have f7 := hK.frozen 7
  clear hw4 hB4 hL hK hz hz3
  rename_i K1 A1 K0 A0
  have HA1 := hid A1
  have HA0 := hid A0
  clear A1 A0 HS HW2 H2 HB3 HO3
  generalize hQ : Exit.then K0 _ = Q0
  have HQ := hid hQ
  clear hQ
  have e1 : (er == 0) = true := e1
  have e2 : (q == xid) = false := e2
  have HG2 : Hid (g = false) := by have := HG.out; rw [e1, e2] at this; exact this.symm
  rw [HG2.out] at HBU
  obtain rfl : er = 0 := by simpa using e1
  have e2' : decide (q = xid) = false := by simpa using e2
  clear HG e1
  go_still_tail 17, (by kernel_rfl)
  still_call (HBU.out _)
  refine wpStill_nil ?_
  obtain ⟨w5, hw5⟩ : ∃ x, x = w4.drew := ⟨_, rfl⟩
  have HK5 : Hid (Bk w5 (w.heap.size + 1) [.int .i64 0, .int .i64 0, .int .i64 0, .int .i64 0, .string ⟨#[]⟩, .int .i64 0, .int .i64 0, .slice none 0 0] 131) := by rw [hw5]; exact HK.out.drew
  have HB5 : Hid (Below w.heap.size w w5) := by rw [hw5]; exact HB.out.drew
  have HO5 : Hid (OwnI w5 (w.heap.size + 1 + 1) (.slice oa gs.length cap) gs) := by rw [hw5]; exact HO.out
  change wpList _ _ _ _ _ w4.drew
  rw [← hw5]
  clear hw5 k0 k1 k2 k3 k4 k5 k6 k7 f0 f1 f2 f3 f4 f5 f6 f7 c0 c1 c2 c3 c4 c5 c6 c7
  have k0 := HK5.out.cell 0 rfl
  have f0 := HK5.out.frozen 0
  have k1 := HK5.out.cell 1 rfl
  have f1 := HK5.out.frozen 1
  have k2 := HK5.out.cell 2 rfl
  have f2 := HK5.out.frozen 2
  have k3 := HK5.out.cell 3 rfl
  have f3 := HK5.out.frozen 3
  have k4 := HK5.out.cell 4 rfl
  have f4 := HK5.out.frozen 4
  have k5 := HK5.out.cell 5 rfl
  have f5 := HK5.out.frozen 5
  have k6 := HK5.out.cell 6 rfl
  have f6 := HK5.out.frozen 6
  have k7 := HK5.out.cell 7 rfl
  have f7 := HK5.out.frozen 7
  have HE := hid ((HO5.out.of_blocks (fun g hg => set8_ne w5 (w.heap.size + 1) g (.int .i64 i) (.int .i64 q) (.int .i64 u) (.int .i64 st) (.string ⟨mc.toArray⟩) (.int .i64 us) (.int .i64 gr) (.slice oa gs.length cap) (by have := (HO5.out.lt g hg).1; omega))).mono (show w.heap.size ≤ w.heap.size + 1 + 1 by omega))
  have HB8 := hid (below_set8 (b := w.heap.size + 1) HB5.out (by omega) (.int .i64 i) (.int .i64 q) (.int .i64 u) (.int .i64 st) (.string ⟨mc.toArray⟩) (.int .i64 us) (.int .i64 gr) (.slice oa gs.length cap))
  have HZ0 := hid (HK5.out.set8 (.int .i64 i) (.int .i64 q) (.int .i64 u) (.int .i64 st) (.string ⟨mc.toArray⟩) (.int .i64 us) (.int .i64 gr) (.slice oa gs.length cap))
  go_wp2_with fail
  rw [← HQ.out]
  have A0 := HA0.out
  have A1 := HA1.out
  go_wp2
  have HZ := HZ0.out
  have q0 := HZ.cell 0 rfl
  have q1 := HZ.cell 1 rfl
  have q2 := HZ.cell 2 rfl
  have q3 := HZ.cell 3 rfl
  have q4 := HZ.cell 4 rfl
  have q5 := HZ.cell 5 rfl
  have q6 := HZ.cell 6 rfl
  have q7 := HZ.cell 7 rfl
  exact bodyPost_ret (v := .tuple #[.agg #[.int .i64 i, .int .i64 q, .int .i64 u, .int .i64 st, .string ⟨mc.toArray⟩, .int .i64 us, .int .i64 gr, .slice oa gs.length cap], .bool true, .int .i64 V]) (by simp [results, Tryz.results130, go_sem, q0, q1, q2, q3, q4, q5, q6, q7]) rfl ⟨_, _, rfl, HE.out, HB8.out⟩
end Go.Proofs.YtfcbjcebkahehaaGreatDoor
namespace Go.Proofs.YtfcbjcebkahehaaGreatDoor
open Go.RowKit
set_option maxRecDepth 4000 in
set_option maxHeartbeats 8000000 in
theorem judge_mark_c (b : List UInt8) (xid : Int) (w : World) (hT : ErrT w) (hl : b.length ≤ 281474976710656) (e1 : ((pmP 1296126539 b).2 == 0) = true) (e2 : ((pmP 1296126539 b).1.seq == xid) = true) :
    Calls Tryz.prog 130 #[.agg #[.int .i64 1296126539, .string ⟨b.toArray⟩], .int .i64 xid] w (J3Post ((pmP 1296126539 b).1, true, bad (markOk (pmP 1296126539 b) xid)) w) := by
  obtain ⟨w2, hw2⟩ : ∃ x, x = (w.alloc (.cells #[.int .i64 1296126539, .string ⟨b.toArray⟩] 44)).alloc (.cells #[.int .i64 0, .int .i64 0, .int .i64 0, .int .i64 0, .string ⟨#[]⟩, .int .i64 0, .int .i64 0, .slice none 0 0] 131) := ⟨_, rfl⟩
  have HW2 : Hid ((w.alloc (.cells #[.int .i64 1296126539, .string ⟨b.toArray⟩] 44)).alloc (.cells #[.int .i64 0, .int .i64 0, .int .i64 0, .int .i64 0, .string ⟨#[]⟩, .int .i64 0, .int .i64 0, .slice none 0 0] 131) = w2) := hw2.symm
  have H2 := hid (two_start [.int .i64 1296126539, .string ⟨b.toArray⟩] [.int .i64 0, .int .i64 0, .int .i64 0, .int .i64 0, .string ⟨#[]⟩, .int .i64 0, .int .i64 0, .slice none 0 0] _ _ w w2 hw2)
  have HS := hid (parseMark_any 1296126539 b w2 (hT.below H2.out.2.1) hl)
  generalize pmP 1296126539 b = R at HS e1 e2 ⊢
  obtain ⟨⟨i, q, u, st, mc, us, gr, gs⟩, er⟩ := R
  obtain ⟨g, hg⟩ : ∃ g, markOk (⟨i, q, u, st, mc, us, gr, gs⟩, er) xid = g := ⟨_, rfl⟩
  rw [hg]
  have HBU := hid (fun w => badUnless_any g w)
  have HG : Hid (((er == 0) && ((q == xid) && decide (u ≤ q))) = g) := hg
  simp only
  generalize bad g = V at HBU ⊢
  clear hw2 hT hl hg
  go_enter Tryz.func130, Tryz.ntmps130
  go_wp2_with fail
  rw [HW2.out]
  refine HS.out.mono ?_
  rintro e w3 ⟨oa, cap, rfl, ho3, hB3⟩
  have HB3 := hid hB3
  have HO3 := hid ho3
  clear hB3 ho3
  simp only
  go_wp2_with fail
  obtain ⟨w4, hw4⟩ : ∃ x, x = w3.alloc (.cells #[.int .i64 i, .int .i64 q, .int .i64 u, .int .i64 st, .string ⟨mc.toArray⟩, .int .i64 us, .int .i64 gr, .slice oa gs.length cap] 131) := ⟨_, rfl⟩
  rw [← hw4]
  have hB4 : Below w3.heap.size w3 w4 := by rw [hw4]; exact below_new _ _
  have hL : Bk w4 w3.heap.size [.int .i64 i, .int .i64 q, .int .i64 u, .int .i64 st, .string ⟨mc.toArray⟩, .int .i64 us, .int .i64 gr, .slice oa gs.length cap] 131 := by rw [hw4]; exact Bk.new _ _ _
  have hz := H2.out.2.2
  have hz3 := HB3.out.size
  have hK : Bk w4 (w.heap.size + 1) [.int .i64 0, .int .i64 0, .int .i64 0, .int .i64 0, .string ⟨#[]⟩, .int .i64 0, .int .i64 0, .slice none 0 0] 131 := (H2.out.1.below HB3.out (by omega)).below hB4 (by omega)
  have HB : Hid (Below w.heap.size w w4) := (H2.out.2.1.trans (HB3.out.mono (by omega))).trans (hB4.mono (by omega))
  have HO : Hid (OwnI w4 (w.heap.size + 1 + 1) (.slice oa gs.length cap) gs) := (HO3.out.of_blocks (fun g hg => hB4.block g (HO3.out.lt g hg).2)).mono (by omega)
  have HNE : Hid (w3.heap.size ≠ w.heap.size + 1) := by show _ ≠ _; omega
  have HK := hid hK
  have HL := hid hL
  have c0 := hL.cell 0 rfl
  have c1 := hL.cell 1 rfl
  have c2 := hL.cell 2 rfl
  have c3 := hL.cell 3 rfl
  have c4 := hL.cell 4 rfl
  have c5 := hL.cell 5 rfl
  have c6 := hL.cell 6 rfl
  have c7 := hL.cell 7 rfl
  have k0 := hK.cell 0 rfl
  have f0 := hK.frozen 0
  have k1 := hK.cell 1 rfl
  have f1 := hK.frozen 1
  have k2 := hK.cell 2 rfl
  have f2 := hK.frozen 2
  have k3 := hK.cell 3 rfl
  have f3 := hK.frozen 3
  have k4 := hK.cell 4 rfl
  have f4 := hK.frozen 4
  have k5 := hK.cell 5 rfl
  have f5 := hK.frozen 5
  have k6 := hK.cell 6 rfl
  have f6 := hK.frozen 6
  have k7 := hK.cell 7 rfl
  have f7 := hK.frozen 7
  clear hw4 hB4 hL hK hz hz3
  rename_i K1 A1 K0 A0
  have HA1 := hid A1
  have HA0 := hid A0
  clear A1 A0 HS HW2 H2 HB3 HO3
  generalize hQ : Exit.then K0 _ = Q0
  have HQ := hid hQ
  clear hQ
  have e1 : (er == 0) = true := e1
  have e2 : (q == xid) = true := e2
  have HG2 : Hid (g = decide (u ≤ q)) := by have := HG.out; rw [e1, e2] at this; exact this.symm
  rw [HG2.out] at HBU
  obtain rfl : er = 0 := by simpa using e1
  obtain rfl : q = xid := by simpa using e2
  clear HG e1 e2
  go_still_tail 17, (by kernel_rfl)
  still_call (HBU.out _)
  refine wpStill_nil ?_
  obtain ⟨w5, hw5⟩ : ∃ x, x = w4.drew := ⟨_, rfl⟩
  have HK5 : Hid (Bk w5 (w.heap.size + 1) [.int .i64 0, .int .i64 0, .int .i64 0, .int .i64 0, .string ⟨#[]⟩, .int .i64 0, .int .i64 0, .slice none 0 0] 131) := by rw [hw5]; exact HK.out.drew
  have HB5 : Hid (Below w.heap.size w w5) := by rw [hw5]; exact HB.out.drew
  have HO5 : Hid (OwnI w5 (w.heap.size + 1 + 1) (.slice oa gs.length cap) gs) := by rw [hw5]; exact HO.out
  change wpList _ _ _ _ _ w4.drew
  rw [← hw5]
  clear hw5 k0 k1 k2 k3 k4 k5 k6 k7 f0 f1 f2 f3 f4 f5 f6 f7 c0 c1 c2 c3 c4 c5 c6 c7
  have k0 := HK5.out.cell 0 rfl
  have f0 := HK5.out.frozen 0
  have k1 := HK5.out.cell 1 rfl
  have f1 := HK5.out.frozen 1
  have k2 := HK5.out.cell 2 rfl
  have f2 := HK5.out.frozen 2
  have k3 := HK5.out.cell 3 rfl
  have f3 := HK5.out.frozen 3
  have k4 := HK5.out.cell 4 rfl
  have f4 := HK5.out.frozen 4
  have k5 := HK5.out.cell 5 rfl
  have f5 := HK5.out.frozen 5
  have k6 := HK5.out.cell 6 rfl
  have f6 := HK5.out.frozen 6
  have k7 := HK5.out.cell 7 rfl
  have f7 := HK5.out.frozen 7
  have HE := hid ((HO5.out.of_blocks (fun g hg => set8_ne w5 (w.heap.size + 1) g (.int .i64 i) (.int .i64 q) (.int .i64 u) (.int .i64 st) (.string ⟨mc.toArray⟩) (.int .i64 us) (.int .i64 gr) (.slice oa gs.length cap) (by have := (HO5.out.lt g hg).1; omega))).mono (show w.heap.size ≤ w.heap.size + 1 + 1 by omega))
  have HB8 := hid (below_set8 (b := w.heap.size + 1) HB5.out (by omega) (.int .i64 i) (.int .i64 q) (.int .i64 u) (.int .i64 st) (.string ⟨mc.toArray⟩) (.int .i64 us) (.int .i64 gr) (.slice oa gs.length cap))
  have HZ0 := hid (HK5.out.set8 (.int .i64 i) (.int .i64 q) (.int .i64 u) (.int .i64 st) (.string ⟨mc.toArray⟩) (.int .i64 us) (.int .i64 gr) (.slice oa gs.length cap))
  go_wp2_with fail
  rw [← HQ.out]
  have A0 := HA0.out
  have A1 := HA1.out
  go_wp2
  have HZ := HZ0.out
  have q0 := HZ.cell 0 rfl
  have q1 := HZ.cell 1 rfl
  have q2 := HZ.cell 2 rfl
  have q3 := HZ.cell 3 rfl
  have q4 := HZ.cell 4 rfl
  have q5 := HZ.cell 5 rfl
  have q6 := HZ.cell 6 rfl
  have q7 := HZ.cell 7 rfl
  exact bodyPost_ret (v := .tuple #[.agg #[.int .i64 i, .int .i64 q, .int .i64 u, .int .i64 st, .string ⟨mc.toArray⟩, .int .i64 us, .int .i64 gr, .slice oa gs.length cap], .bool true, .int .i64 V]) (by simp [results, Tryz.results130, go_sem, q0, q1, q2, q3, q4, q5, q6, q7]) rfl ⟨_, _, rfl, HE.out, HB8.out⟩
end Go.Proofs.YtfcbjcebkahehaaGreatDoor
namespace Go.Proofs.YtfcbjcebkahehaaGreatDoor
open Go.RowKit
theorem judgeCred_any (f : Int) (b : List UInt8) (xid : Int) (w : World) (hT : ErrT w) (hl : b.length ≤ 281474976710656) :
    Calls Tryz.prog 130 #[.agg #[.int .i64 f, .string ⟨b.toArray⟩], .int .i64 xid] w (J3Post (jcP f b xid) w) := by
  unfold jcP
  by_cases h0 : f = 0
  · subst h0; rw [if_pos rfl]; exact judge_none b xid w
  · rw [if_neg h0]
    by_cases h1 : f = 1
    · subst h1; rw [if_pos rfl]; exact judge_sys b xid w hT hl
    · rw [if_neg h1]
      by_cases h2 : f = 1296126539
      · subst h2
        rw [if_pos rfl]
        cases e1 : ((pmP 1296126539 b).2 == 0)
        · exact judge_mark_a b xid w hT hl e1
        · cases e2 : ((pmP 1296126539 b).1.seq == xid)
          · exact judge_mark_b b xid w hT hl e1 e2
          · exact judge_mark_c b xid w hT hl e1 e2
      · rw [if_neg h2]; exact judge_other f b xid w h0 h1 h2
/-- what Judge tells -/
def jP (xid cf : Int) (cb : List UInt8) (vf : Int) (vb : List UInt8) : MarkP × Bool × Int :=
  if (jcP cf cb xid).2.2 = 0 then (if nob vf ⟨vb.toArray⟩ = true then ((jcP cf cb xid).1, (jcP cf cb xid).2.1, 0) else (nulM, false, 3)) else (nulM, false, (jcP cf cb xid).2.2)
set_option maxRecDepth 4000 in
set_option maxHeartbeats 2000000 in
theorem judge_any (xid rpc prog vers proc cf vf : Int) (cb vb : List UInt8) (args : ByteArray) (w : World) (hT : ErrT w) (hl : cb.length ≤ 281474976710656) :
    Calls Tryz.prog 83 #[.agg #[.int .i64 xid, .int .i64 rpc, .int .i64 prog, .int .i64 vers, .int .i64 proc, .int .i64 cf, .string ⟨cb.toArray⟩, .int .i64 vf, .string ⟨vb.toArray⟩, .string args]] w (J3Post (jP xid cf cb vf vb) w) := by
  obtain ⟨w2, hw2⟩ : ∃ x, x = (w.alloc (.cells #[.int .i64 xid, .int .i64 rpc, .int .i64 prog, .int .i64 vers, .int .i64 proc, .int .i64 cf, .string ⟨cb.toArray⟩, .int .i64 vf, .string ⟨vb.toArray⟩, .string args] 108)).alloc (.cells #[.int .i64 0, .int .i64 0, .int .i64 0, .int .i64 0, .string ⟨#[]⟩, .int .i64 0, .int .i64 0, .slice none 0 0] 131) := ⟨_, rfl⟩
  have HW2 : Hid ((w.alloc (.cells #[.int .i64 xid, .int .i64 rpc, .int .i64 prog, .int .i64 vers, .int .i64 proc, .int .i64 cf, .string ⟨cb.toArray⟩, .int .i64 vf, .string ⟨vb.toArray⟩, .string args] 108)).alloc (.cells #[.int .i64 0, .int .i64 0, .int .i64 0, .int .i64 0, .string ⟨#[]⟩, .int .i64 0, .int .i64 0, .slice none 0 0] 131) = w2) := hw2.symm
  have H2 := hid (two_start [.int .i64 xid, .int .i64 rpc, .int .i64 prog, .int .i64 vers, .int .i64 proc, .int .i64 cf, .string ⟨cb.toArray⟩, .int .i64 vf, .string ⟨vb.toArray⟩, .string args] [.int .i64 0, .int .i64 0, .int .i64 0, .int .i64 0, .string ⟨#[]⟩, .int .i64 0, .int .i64 0, .slice none 0 0] _ _ w w2 hw2)
  have HC2 : Hid (Bk w2 w.heap.size [.int .i64 xid, .int .i64 rpc, .int .i64 prog, .int .i64 vers, .int .i64 proc, .int .i64 cf, .string ⟨cb.toArray⟩, .int .i64 vf, .string ⟨vb.toArray⟩, .string args] 108) := by
    show Bk _ _ _ _
    rw [hw2]
    exact (Bk.new w [.int .i64 xid, .int .i64 rpc, .int .i64 prog, .int .i64 vers, .int .i64 proc, .int .i64 cf, .string ⟨cb.toArray⟩, .int .i64 vf, .string ⟨vb.toArray⟩, .string args] 108).below (below_new _ _) (by simp)
  have HS := hid (judgeCred_any cf cb xid w2 (hT.below H2.out.2.1) hl)
  obtain ⟨R, hR⟩ : ∃ R, jP xid cf cb vf vb = R := ⟨_, rfl⟩
  obtain ⟨n, hn⟩ : ∃ n, nob vf ⟨vb.toArray⟩ = n := ⟨_, rfl⟩
  have HI := hid (fun w => isNobody_any vf ⟨vb.toArray⟩ w)
  have HR := hid hR.symm
  unfold jP at HR
  rw [hR]
  generalize jcP cf cb xid = J at HS HR
  rw [hn] at HI HR
  obtain ⟨⟨i, q, u, st, mc, us, gr, gs⟩, is, why⟩ := J
  simp only at HR
  clear hw2 hT hl hR hn
  go_enter Tryz.func83, Tryz.ntmps83
  go_wp2_with fail
  rw [HW2.out]
  refine HS.out.mono ?_
  rintro e w3 ⟨oa, cap, rfl, ho3, hB3⟩
  have HB3 := hid hB3
  have HO3 := hid ho3
  clear hB3 ho3
  simp only
  obtain ⟨w4, hw4⟩ : ∃ x, w3.alloc (.cells #[.int .i64 i, .int .i64 q, .int .i64 u, .int .i64 st, .string ⟨mc.toArray⟩, .int .i64 us, .int .i64 gr, .slice oa gs.length cap] 131) = x := ⟨_, rfl⟩
  have hB4 : Below w3.heap.size w3 w4 := by rw [← hw4]; exact below_new _ _
  have hL : Bk w4 w3.heap.size [.int .i64 i, .int .i64 q, .int .i64 u, .int .i64 st, .string ⟨mc.toArray⟩, .int .i64 us, .int .i64 gr, .slice oa gs.length cap] 131 := by rw [← hw4]; exact Bk.new _ _ _
  have hz := H2.out.2.2
  have hz3 := HB3.out.size
  have hz4 : w3.heap.size < w4.heap.size := hL.lt
  have HK : Hid (Bk w4 (w.heap.size + 1) [.int .i64 0, .int .i64 0, .int .i64 0, .int .i64 0, .string ⟨#[]⟩, .int .i64 0, .int .i64 0, .slice none 0 0] 131) := (H2.out.1.below HB3.out (by omega)).below hB4 (by omega)
  have hC : Bk w4 w.heap.size [.int .i64 xid, .int .i64 rpc, .int .i64 prog, .int .i64 vers, .int .i64 proc, .int .i64 cf, .string ⟨cb.toArray⟩, .int .i64 vf, .string ⟨vb.toArray⟩, .string args] 108 := (HC2.out.below HB3.out (by omega)).below hB4 (by omega)
  have HB : Hid (Below w.heap.size w w4) := (H2.out.2.1.trans (HB3.out.mono (by omega))).trans (hB4.mono (by omega))
  have HO : Hid (OwnI w4 (w.heap.size + 1 + 1) (.slice oa gs.length cap) gs) := (HO3.out.of_blocks (fun g hg => hB4.block g (HO3.out.lt g hg).2)).mono (by omega)
  have HL := hid hL
  have HZZ := hid (And.intro hz (And.intro hz3 hz4))
  have v7 := hC.cell 7 rfl
  have v8 := hC.cell 8 rfl
  clear hB4 hL hC hz hz3 hz4 HS HW2 HC2 HB3 HO3
  by_cases h0 : why = 0
  · subst h0
    rw [if_pos rfl] at HR
    cases n
    · have hR : R = (nulM, false, 3) := HR.out
      subst hR
      clear HR
      go_wp2_with fail
      refine (HI.out _).mono ?_
      rintro e w5 ⟨rfl, hB5⟩
      have HK5 : Hid (Bk w5 (w.heap.size + 1) [.int .i64 0, .int .i64 0, .int .i64 0, .int .i64 0, .string ⟨#[]⟩, .int .i64 0, .int .i64 0, .slice none 0 0] 131) := HK.out.below hB5 (by have := HZZ.out; omega)
      have HB5 : Hid (Below w.heap.size w w5) := HB.out.trans (hB5.mono (by have := HZZ.out; omega))
      clear hB5 v7 v8
      have k0 := HK5.out.cell 0 rfl
      have f0 := HK5.out.frozen 0
      have k1 := HK5.out.cell 1 rfl
      have f1 := HK5.out.frozen 1
      have k2 := HK5.out.cell 2 rfl
      have f2 := HK5.out.frozen 2
      have k3 := HK5.out.cell 3 rfl
      have f3 := HK5.out.frozen 3
      have k4 := HK5.out.cell 4 rfl
      have f4 := HK5.out.frozen 4
      have k5 := HK5.out.cell 5 rfl
      have f5 := HK5.out.frozen 5
      have k6 := HK5.out.cell 6 rfl
      have f6 := HK5.out.frozen 6
      have k7 := HK5.out.cell 7 rfl
      have f7 := HK5.out.frozen 7
      have HZ := HK5.out.set8 (.int .i64 0) (.int .i64 0) (.int .i64 0) (.int .i64 0) (.string ⟨#[]⟩) (.int .i64 0) (.int .i64 0) (.slice none 0 0)
      have q0 := HZ.cell 0 rfl
      have q1 := HZ.cell 1 rfl
      have q2 := HZ.cell 2 rfl
      have q3 := HZ.cell 3 rfl
      have q4 := HZ.cell 4 rfl
      have q5 := HZ.cell 5 rfl
      have q6 := HZ.cell 6 rfl
      have q7 := HZ.cell 7 rfl
      have HB7 := hid (below_set8 (b := w.heap.size + 1) HB5.out (by omega) (.int .i64 0) (.int .i64 0) (.int .i64 0) (.int .i64 0) (.string ⟨#[]⟩) (.int .i64 0) (.int .i64 0) (.slice none 0 0))
      clear HZ
      go_wp2
      exact bodyPost_ret (v := .tuple #[.agg #[.int .i64 0, .int .i64 0, .int .i64 0, .int .i64 0, .string ⟨#[]⟩, .int .i64 0, .int .i64 0, .slice none 0 0], .bool false, .int .i64 3]) (by simp [results, Tryz.results83, go_sem, q0, q1, q2, q3, q4, q5, q6, q7]) rfl ⟨none, 0, rfl, OwnI.nil _ _, HB7.out⟩
    · have hR : R = (⟨i, q, u, st, mc, us, gr, gs⟩, is, 0) := HR.out
      subst hR
      clear HR
      go_wp2_with fail
      refine (HI.out _).mono ?_
      rintro e w5 ⟨rfl, hB5⟩
      have hzz := HZZ.out
      have HK5 : Hid (Bk w5 (w.heap.size + 1) [.int .i64 0, .int .i64 0, .int .i64 0, .int .i64 0, .string ⟨#[]⟩, .int .i64 0, .int .i64 0, .slice none 0 0] 131) := HK.out.below hB5 (by omega)
      have HB5 : Hid (Below w.heap.size w w5) := HB.out.trans (hB5.mono (by omega))
      have HL5 : Hid (Bk w5 w3.heap.size [.int .i64 i, .int .i64 q, .int .i64 u, .int .i64 st, .string ⟨mc.toArray⟩, .int .i64 us, .int .i64 gr, .slice oa gs.length cap] 131) := HL.out.below hB5 (by omega)
      have HO5 : Hid (OwnI w5 (w.heap.size + 1 + 1) (.slice oa gs.length cap) gs) := HO.out.of_blocks (fun g hg => hB5.block g (HO.out.lt g hg).2)
      clear hB5 v7 v8 hzz
      have k0 := HK5.out.cell 0 rfl
      have f0 := HK5.out.frozen 0
      have k1 := HK5.out.cell 1 rfl
      have f1 := HK5.out.frozen 1
      have k2 := HK5.out.cell 2 rfl
      have f2 := HK5.out.frozen 2
      have k3 := HK5.out.cell 3 rfl
      have f3 := HK5.out.frozen 3
      have k4 := HK5.out.cell 4 rfl
      have f4 := HK5.out.frozen 4
      have k5 := HK5.out.cell 5 rfl
      have f5 := HK5.out.frozen 5
      have k6 := HK5.out.cell 6 rfl
      have f6 := HK5.out.frozen 6
      have k7 := HK5.out.cell 7 rfl
      have f7 := HK5.out.frozen 7
      have c0 := HL5.out.cell 0 rfl
      have c1 := HL5.out.cell 1 rfl
      have c2 := HL5.out.cell 2 rfl
      have c3 := HL5.out.cell 3 rfl
      have c4 := HL5.out.cell 4 rfl
      have c5 := HL5.out.cell 5 rfl
      have c6 := HL5.out.cell 6 rfl
      have c7 := HL5.out.cell 7 rfl
      have HE := hid ((HO5.out.of_blocks (fun g hg => set8_ne w5 (w.heap.size + 1) g (.int .i64 i) (.int .i64 q) (.int .i64 u) (.int .i64 st) (.string ⟨mc.toArray⟩) (.int .i64 us) (.int .i64 gr) (.slice oa gs.length cap) (by have := (HO5.out.lt g hg).1; omega))).mono (show w.heap.size ≤ w.heap.size + 1 + 1 by omega))
      have HB8 := hid (below_set8 (b := w.heap.size + 1) HB5.out (by omega) (.int .i64 i) (.int .i64 q) (.int .i64 u) (.int .i64 st) (.string ⟨mc.toArray⟩) (.int .i64 us) (.int .i64 gr) (.slice oa gs.length cap))
      have HZ0 := hid (HK5.out.set8 (.int .i64 i) (.int .i64 q) (.int .i64 u) (.int .i64 st) (.string ⟨mc.toArray⟩) (.int .i64 us) (.int .i64 gr) (.slice oa gs.length cap))
      go_wp2
      have HZ := HZ0.out
      have q0 := HZ.cell 0 rfl
      have q1 := HZ.cell 1 rfl
      have q2 := HZ.cell 2 rfl
      have q3 := HZ.cell 3 rfl
      have q4 := HZ.cell 4 rfl
      have q5 := HZ.cell 5 rfl
      have q6 := HZ.cell 6 rfl
      have q7 := HZ.cell 7 rfl
      exact bodyPost_ret (v := .tuple #[.agg #[.int .i64 i, .int .i64 q, .int .i64 u, .int .i64 st, .string ⟨mc.toArray⟩, .int .i64 us, .int .i64 gr, .slice oa gs.length cap], .bool is, .int .i64 0]) (by simp [results, Tryz.results83, go_sem, q0, q1, q2, q3, q4, q5, q6, q7]) rfl ⟨_, _, rfl, HE.out, HB8.out⟩
  · have hR := HR.out
    rw [if_neg h0] at hR
    subst hR
    clear HR v7 v8
    have h1 : (why == 0) = false := by simpa using h0
    have h2 : (why != 0) = true := bne_iff_ne.2 h0
    have k0 := HK.out.cell 0 rfl
    have f0 := HK.out.frozen 0
    have k1 := HK.out.cell 1 rfl
    have f1 := HK.out.frozen 1
    have k2 := HK.out.cell 2 rfl
    have f2 := HK.out.frozen 2
    have k3 := HK.out.cell 3 rfl
    have f3 := HK.out.frozen 3
    have k4 := HK.out.cell 4 rfl
    have f4 := HK.out.frozen 4
    have k5 := HK.out.cell 5 rfl
    have f5 := HK.out.frozen 5
    have k6 := HK.out.cell 6 rfl
    have f6 := HK.out.frozen 6
    have k7 := HK.out.cell 7 rfl
    have f7 := HK.out.frozen 7
    have HZ := HK.out.set8 (.int .i64 0) (.int .i64 0) (.int .i64 0) (.int .i64 0) (.string ⟨#[]⟩) (.int .i64 0) (.int .i64 0) (.slice none 0 0)
    have q0 := HZ.cell 0 rfl
    have q1 := HZ.cell 1 rfl
    have q2 := HZ.cell 2 rfl
    have q3 := HZ.cell 3 rfl
    have q4 := HZ.cell 4 rfl
    have q5 := HZ.cell 5 rfl
    have q6 := HZ.cell 6 rfl
    have q7 := HZ.cell 7 rfl
    have HB7 := hid (below_set8 (b := w.heap.size + 1) HB.out (by omega) (.int .i64 0) (.int .i64 0) (.int .i64 0) (.int .i64 0) (.string ⟨#[]⟩) (.int .i64 0) (.int .i64 0) (.slice none 0 0))
    clear HZ
    go_wp2
    exact bodyPost_ret (v := .tuple #[.agg #[.int .i64 0, .int .i64 0, .int .i64 0, .int .i64 0, .string ⟨#[]⟩, .int .i64 0, .int .i64 0, .slice none 0 0], .bool false, .int .i64 why]) (by simp [results, Tryz.results83, go_sem, q0, q1, q2, q3, q4, q5, q6, q7]) rfl ⟨none, 0, rfl, OwnI.nil _ _, HB7.out⟩
end Go.Proofs.YtfcbjcebkahehaaGreatDoor
