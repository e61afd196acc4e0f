/- Calls and replies: what was laid down is read, what is read was laid down. The program's Reader: something is wrong; a mark is told. The program reads a mark. -/
import Derived.Test.YtfcbjcebkahehaaGreatDoorMx
import Derived.Test.YtfcbjcebkahehaaGreatDoorZam
import Derived.Test.YtfcbjcebkahehaaGreatDoorZai
namespace Go.Proofs.YtfcbjcebkahehaaGreatDoor
theorem good_bool (t : Bool) : Good rdBool (nbL 4 (if t then 1 else 0)) t := by
  refine (good_word (if t then 1 else 0) (by cases t <;> decide)).map rdBool t ?_ ?_
  · intro l h
    unfold rdBool
    rw [h, nbL_len]
    cases t <;> rfl
  · intro l h
    unfold rdBool
    rw [if_pos (by rw [h]; decide), h]
theorem one_bool : One rdBool (fun b => nbL 4 (if b then 1 else 0)) (fun _ => True) := by
  intro l h
  unfold rdBool at h ⊢
  by_cases hw : (rdWord l).wrong ≠ 0
  · rw [if_pos hw] at h; exact absurd h hw
  · rw [if_neg hw] at h ⊢
    by_cases h1 : 1 < (rdWord l).val
    · rw [if_pos h1] at h; exact absurd h (by decide)
    · rw [if_neg h1]
      obtain ⟨a1, a2, _⟩ := one_word l (Decidable.not_not.1 hw)
      have hs : (rdWord l).size = 4 := (rdWord_size l).1
      rw [hs] at a1 a2
      refine ⟨a1, ?_, trivial⟩
      show nbL 4 (if ((rdWord l).val == 1) = true then 1 else 0) = l.take 4
      rw [← a2]
      have : (rdWord l).val = 0 ∨ (rdWord l).val = 1 := by omega
      rcases this with e | e <;> rw [e] <;> rfl
theorem go_cnt {n m : Int} (h0 : 0 ≤ n) (h1 : n ≤ m) (hm : m ≤ 4294967295) (r : List UInt8) : (⟨nbL 4 n.toNat ++ r, 0⟩ : Rs).go 0 (rdCount m) = (n.toNat, ⟨r, 0⟩) := go_good (good_count m _ (by omega) hm) 0 r
theorem go_flag (t : Bool) (r : List UInt8) : (⟨nbL 4 (if t then 1 else 0) ++ r, 0⟩ : Rs).go false rdBool = (t, ⟨r, 0⟩) := go_good (good_bool t) false r
theorem fail_ne (st : Rs) : (st.fail 121).e ≠ 0 := by
  unfold Rs.fail
  by_cases h : st.e = 0
  · simp [h]
  · simp [h]
theorem tail_there (s : List UInt8) (h : plainB s) : rdTail ⟨s, 0⟩ = (s, ⟨[], 0⟩) := by
  unfold rdTail
  rw [if_pos h]
  unfold Rs.go rdRest
  simp
theorem tail_back (st : Rs) (h : (rdTail st).2.e = 0) : st.e = 0 ∧ plainB st.l ∧ (rdTail st).1 = st.l ∧ (rdTail st).2.l = [] := by
  unfold rdTail at h ⊢
  by_cases hp : plainB st.l
  · rw [if_pos hp] at h ⊢
    by_cases h0 : st.e ≠ 0
    · rw [go_stay h0] at h; exact absurd h h0
    · unfold Rs.go rdRest
      rw [if_neg h0]
      simp only [ne_eq, not_true, if_false]
      exact ⟨Decidable.not_not.1 h0, hp, by first | rfl | trivial, by simp⟩
  · rw [if_neg hp, go_stay (fail_ne st)] at h
    exact absurd h (fail_ne st)
theorem head_there {n x : Int} (hn : isW n) (hx : isW x) (r : List UInt8) : rdHead n ⟨nbL 4 x.toNat ++ (nbL 4 n.toNat ++ r), 0⟩ = (x.toNat, ⟨r, 0⟩) := by
  unfold rdHead
  rw [go_word hx]
  simp only []
  rw [go_word hn]
  simp only []
  rw [if_pos (toNat_w hn).2]
theorem head_back (n : Int) (st : Rs) (h : (rdHead n st).2.e = 0) : st.e = 0 ∧ (rdHead n st).1 < 4294967296 ∧ (((st.go 0 rdWord).2.go 0 rdWord).1 : Int) = n ∧ st.l = nbL 4 (rdHead n st).1 ++ (nbL 4 n.toNat ++ (rdHead n st).2.l) := by
  unfold rdHead at h ⊢
  by_cases hk : (((st.go 0 rdWord).2.go 0 rdWord).1 : Int) = n
  · simp only [if_pos hk] at h ⊢
    obtain ⟨k1, k2, k3⟩ := go_one one_word 0 (st.go 0 rdWord).2 h
    obtain ⟨x1, x2, x3⟩ := go_one one_word 0 st k1
    refine ⟨x1, x2, hk, ?_⟩
    have e : ((st.go 0 rdWord).2.go 0 rdWord).1 = n.toNat := by omega
    rw [e] at k3
    rw [← k3]
    exact x3
  · simp only [if_neg hk] at h
    exact absurd h (fail_ne _)
theorem done_zero {l : List UInt8} {e : Int} (h : rdDone l e = 0) : e = 0 ∧ l = [] := by
  unfold rdDone at h
  by_cases h1 : e = 0 ∧ l ≠ []
  · rw [if_pos h1] at h; exact absurd h (by decide)
  · rw [if_neg h1] at h
    exact ⟨h, Decidable.not_not.1 fun q => h1 ⟨h, q⟩⟩
theorem parseC_there (c : CallP) (h : c.may) : parseC c.lay = (c, 0) := by
  obtain ⟨h1, h2, h3, h4, h5, h6, h7, h8⟩ := h
  obtain ⟨cx, cr, cp, cv, cq, cc, cf, ca⟩ := c
  have h2 : cr = 2 := h2
  subst h2
  have e : rdCallQ ⟨CallP.lay ⟨cx, 2, cp, cv, cq, cc, cf, ca⟩, 0⟩ = ⟨(cx.toNat, ⟨nbL 4 (2 : Int).toNat ++ (nbL 4 cp.toNat ++ (nbL 4 cv.toNat ++ (nbL 4 cq.toNat ++ (cc.lay ++ (cf.lay ++ ca))))), 0⟩), (2, ⟨nbL 4 cp.toNat ++ (nbL 4 cv.toNat ++ (nbL 4 cq.toNat ++ (cc.lay ++ (cf.lay ++ ca)))), 0⟩), (cp.toNat, ⟨nbL 4 cv.toNat ++ (nbL 4 cq.toNat ++ (cc.lay ++ (cf.lay ++ ca))), 0⟩), (cv.toNat, ⟨nbL 4 cq.toNat ++ (cc.lay ++ (cf.lay ++ ca)), 0⟩), (cq.toNat, ⟨cc.lay ++ (cf.lay ++ ca), 0⟩), (cc, ⟨cf.lay ++ ca, 0⟩), (cf, ⟨ca, 0⟩), (ca, ⟨[], 0⟩)⟩ := by
    unfold rdCallQ CallP.lay
    simp only []
    rw [show nbL 4 0 = nbL 4 (0 : Int).toNat from rfl, head_there (by decide) h1]
    simp only []
    rw [go_word (n := 2) (by decide)]
    simp only []
    rw [go_word h3]
    simp only []
    rw [go_word h4]
    simp only []
    rw [go_word h5]
    simp only []
    rw [auth_there _ h6]
    simp only []
    rw [auth_there _ h7]
    simp only []
    rw [tail_there _ h8]
    rfl
  unfold parseC
  rw [e]
  simp only [CallQ.all, (toNat_w h1).2, (toNat_w h3).2, (toNat_w h4).2, (toNat_w h5).2]
  rfl
theorem parseC_other {x n : Int} (hx : isW x) (hn : isW n) (h2 : n ≠ 2) (r : List UInt8) : parseC (nbL 4 x.toNat ++ (nbL 4 0 ++ (nbL 4 n.toNat ++ r))) = (⟨x, n, 0, 0, 0, nulA, nulA, []⟩, 0) := by
  have e1 : (rdCallQ ⟨nbL 4 x.toNat ++ (nbL 4 0 ++ (nbL 4 n.toNat ++ r)), 0⟩).h = (x.toNat, ⟨nbL 4 n.toNat ++ r, 0⟩) := head_there (n := 0) (by decide) hx _
  have e2 : (rdCallQ ⟨nbL 4 x.toNat ++ (nbL 4 0 ++ (nbL 4 n.toNat ++ r)), 0⟩).r = (n.toNat, ⟨r, 0⟩) := by
    show (rdCallQ ⟨nbL 4 x.toNat ++ (nbL 4 0 ++ (nbL 4 n.toNat ++ r)), 0⟩).h.2.go 0 rdWord = _
    rw [e1]
    exact go_word hn r
  unfold parseC
  rw [if_pos (by rw [e2]; exact ⟨rfl, by rw [(toNat_w hn).2]; exact h2⟩)]
  unfold CallQ.two
  rw [e1, e2]
  simp only [(toNat_w hx).2, (toNat_w hn).2]
theorem parseC_form (s : List UInt8) : ((parseC s).2 = 0 ∧ (((⟨s, 0⟩ : Rs).go 0 rdWord).2.go 0 rdWord).1 = 0 ∧ ((parseC s).1.rpc = 2 → (parseC s).1.may ∧ s = (parseC s).1.lay)) ∨ parseC s = (nulC, 121) := by
  unfold parseC
  by_cases h1 : (rdCallQ ⟨s, 0⟩).r.2.e = 0 ∧ ((rdCallQ ⟨s, 0⟩).r.1 : Int) ≠ 2
  · rw [if_pos h1]
    refine .inl ⟨rfl, ?_, fun q => absurd q h1.2⟩
    obtain ⟨a1, _, _⟩ := go_one one_word 0 (rdCallQ ⟨s, 0⟩).h.2 h1.1
    have := (head_back 0 ⟨s, 0⟩ a1).2.2.1
    exact Int.ofNat_eq_zero.1 this
  · rw [if_neg h1]
    by_cases hd : rdDone (rdCallQ ⟨s, 0⟩).a.2.l (rdCallQ ⟨s, 0⟩).a.2.e = 0
    · rw [if_pos hd]
      obtain ⟨he, _⟩ := done_zero hd
      obtain ⟨t1, t2, t3, t4⟩ := tail_back (rdCallQ ⟨s, 0⟩).f.2 he
      obtain ⟨f1, f2, f3⟩ := auth_back (rdCallQ ⟨s, 0⟩).c.2 t1
      obtain ⟨c1, c2, c3⟩ := auth_back (rdCallQ ⟨s, 0⟩).q.2 f1
      obtain ⟨q1, q2, q3⟩ := go_one one_word 0 (rdCallQ ⟨s, 0⟩).v.2 c1
      obtain ⟨v1, v2, v3⟩ := go_one one_word 0 (rdCallQ ⟨s, 0⟩).p.2 q1
      obtain ⟨p1, p2, p3⟩ := go_one one_word 0 (rdCallQ ⟨s, 0⟩).r.2 v1
      obtain ⟨r1, r2, r3⟩ := go_one one_word 0 (rdCallQ ⟨s, 0⟩).h.2 p1
      obtain ⟨x1, x2, x3, x4⟩ := head_back 0 ⟨s, 0⟩ r1
      have e2 : ((rdCallQ ⟨s, 0⟩).r.1 : Int) = 2 := Decidable.not_not.1 fun q => h1 ⟨p1, q⟩
      refine .inl ⟨rfl, Int.ofNat_eq_zero.1 x3, fun _ => ?_⟩
      have y1 : rdHead 0 ⟨s, 0⟩ = (rdCallQ ⟨s, 0⟩).h := rfl
      have y2 : (rdCallQ ⟨s, 0⟩).h.2.go 0 rdWord = (rdCallQ ⟨s, 0⟩).r := rfl
      have y3 : (rdCallQ ⟨s, 0⟩).r.2.go 0 rdWord = (rdCallQ ⟨s, 0⟩).p := rfl
      have y4 : (rdCallQ ⟨s, 0⟩).p.2.go 0 rdWord = (rdCallQ ⟨s, 0⟩).v := rfl
      have y5 : (rdCallQ ⟨s, 0⟩).v.2.go 0 rdWord = (rdCallQ ⟨s, 0⟩).q := rfl
      have y6 : rdAuth (rdCallQ ⟨s, 0⟩).q.2 = (rdCallQ ⟨s, 0⟩).c := rfl
      have y7 : rdAuth (rdCallQ ⟨s, 0⟩).c.2 = (rdCallQ ⟨s, 0⟩).f := rfl
      have y8 : rdTail (rdCallQ ⟨s, 0⟩).f.2 = (rdCallQ ⟨s, 0⟩).a := rfl
      rw [y1] at x2 x4
      rw [y2] at r2 r3
      rw [y3] at p2 p3
      rw [y4] at v2 v3
      rw [y5] at q2 q3
      rw [y6] at c2 c3
      rw [y7] at f2 f3
      rw [y8] at t3
      refine ⟨⟨nat_w x2, e2, nat_w p2, nat_w v2, nat_w q2, c2, f2, ?_⟩, ?_⟩
      · show plainB (rdCallQ ⟨s, 0⟩).a.1
        rw [t3]; exact t2
      · show s = _
        have x5 : s = _ := x4
        refine x5.trans ?_
        rw [r3, p3, v3, q3, c3, f3]
        unfold CallQ.all CallP.lay
        simp only [Int.toNat_natCast, t3]
        rfl
    · rw [if_neg hd]; exact .inr rfl
theorem rdO_true {α : Type} (d : α) (f : Rs → α × Rs) (st : Rs) : rdO true d f st = f st := rfl
theorem rdO_false {α : Type} (d : α) (f : Rs → α × Rs) (st : Rs) : rdO false d f st = (d, st) := rfl
theorem wordO_back (s : Bool) (st : Rs) (n : Nat × Rs) (hn : rdO s 0 (fun x => x.go 0 rdWord) st = n) (he : n.2.e = 0) : st.e = 0 ∧ (opt s (isW (n.1 : Int), nbL 4 (n.1 : Int).toNat) ((n.1 : Int) = 0, [])).1 ∧ st.l = (opt s (isW (n.1 : Int), nbL 4 (n.1 : Int).toNat) ((n.1 : Int) = 0, [])).2 ++ n.2.l := by
  subst hn
  cases s
  · exact ⟨he, rfl, rfl⟩
  · obtain ⟨a1, a2, a3⟩ := go_one one_word 0 st he
    exact ⟨a1, nat_w a2, a3⟩
theorem cntO_back (s : Bool) (m : Int) (st : Rs) (n : Nat × Rs) (hn : rdO s 0 (fun x => x.go 0 (rdCount m)) st = n) (he : n.2.e = 0) : st.e = 0 ∧ (opt s (0 ≤ (n.1 : Int) ∧ (n.1 : Int) ≤ m, nbL 4 (n.1 : Int).toNat) ((n.1 : Int) = 0, [])).1 ∧ st.l = (opt s (0 ≤ (n.1 : Int) ∧ (n.1 : Int) ≤ m, nbL 4 (n.1 : Int).toNat) ((n.1 : Int) = 0, [])).2 ++ n.2.l := by
  subst hn
  cases s
  · exact ⟨he, rfl, rfl⟩
  · obtain ⟨a1, a2, a3⟩ := go_one (one_count m) 0 st he
    exact ⟨a1, ⟨Int.natCast_nonneg _, a2.2.2⟩, a3⟩
theorem tailO_back (s : Bool) (st : Rs) (n : List UInt8 × Rs) (hn : rdO s [] rdTail st = n) (he : n.2.e = 0) : st.e = 0 ∧ (opt s (plainB n.1, n.1) (n.1 = [], [])).1 ∧ st.l = (opt s (plainB n.1, n.1) (n.1 = [], [])).2 ++ n.2.l := by
  subst hn
  cases s
  · exact ⟨he, rfl, rfl⟩
  · obtain ⟨a1, a2, a3, a4⟩ := tail_back st he
    refine ⟨a1, ?_, ?_⟩
    · show plainB (rdTail st).1
      rw [a3]; exact a2
    · show st.l = (rdTail st).1 ++ (rdTail st).2.l
      rw [a3, a4, List.append_nil]
theorem end_back (b : ReplyP × Rs) (he : (rdE b).2.e = 0) : b.2.e = 0 ∧ allA (rtsE (endM b.1) (endA b.1) (endS b.1) (rdE b).1) ∧ b.2.l = allL (rtsE (endM b.1) (endA b.1) (endS b.1) (rdE b).1) ++ (rdE b).2.l := by
  obtain ⟨t1, t2, t3⟩ := tailO_back (endS b.1) (rdEQ (endM b.1) (endA b.1) (endS b.1) b.2).y.2 (rdEQ (endM b.1) (endA b.1) (endS b.1) b.2).t rfl he
  obtain ⟨y1, y2, y3⟩ := cntO_back (endA b.1) 14 (rdEQ (endM b.1) (endA b.1) (endS b.1) b.2).h.2 (rdEQ (endM b.1) (endA b.1) (endS b.1) b.2).y rfl t1
  obtain ⟨h1, h2, h3⟩ := wordO_back (endM b.1) (rdEQ (endM b.1) (endA b.1) (endS b.1) b.2).l.2 (rdEQ (endM b.1) (endA b.1) (endS b.1) b.2).h rfl y1
  obtain ⟨l1, l2, l3⟩ := wordO_back (endM b.1) b.2 (rdEQ (endM b.1) (endA b.1) (endS b.1) b.2).l rfl h1
  refine ⟨l1, ⟨l2, h2, y2, t2, trivial⟩, ?_⟩
  rw [l3, h3, y3, t3]
  simp only [rtsE, allL, List.append_assoc, List.append_nil]
  rfl
theorem body_back (x : Nat) (d : Bool × Rs) (he : (rdB x d).2.e = 0) : d.2.e = 0 ∧ allA (rtsB (rdB x d).1) ∧ d.2.l = allL (rtsB (rdB x d).1) ++ (rdB x d).2.l := by
  obtain ⟨d, st⟩ := d
  cases d
  · have e : rdB x (false, st) = (⟨x, false, (rdAuth st).1, ((rdAuth st).2.go 0 (rdCount 5)).1, 0, 0, [], 0, 0⟩, ((rdAuth st).2.go 0 (rdCount 5)).2) := rfl
    rw [e] at he ⊢
    obtain ⟨a1, a2, a3⟩ := go_one (one_count 5) 0 (rdAuth st).2 he
    obtain ⟨b1, b2, b3⟩ := auth_back st a1
    refine ⟨b1, ⟨rfl, b2.1, ?_, ⟨Int.natCast_nonneg _, a2.2.2⟩, trivial⟩, ?_⟩
    · have := b2.2
      show (((rdAuth st).1.body.length : Nat) : Int) ≤ 400
      omega
    · show st.l = _
      rw [b3, a3]
      simp only [rtsB, rtsA, allL, AuthP.lay, Bool.false_eq_true, if_false, List.append_assoc, List.append_nil, List.nil_append, Int.toNat_natCast]
  · have e : rdB x (true, st) = (⟨x, true, nulA, 0, 0, 0, [], (st.go 0 (rdCount 1)).1, 0⟩, (st.go 0 (rdCount 1)).2) := rfl
    rw [e] at he ⊢
    obtain ⟨a1, a2, a3⟩ := go_one (one_count 1) 0 st he
    refine ⟨a1, ⟨⟨Int.natCast_nonneg _, a2.2.2⟩, rfl, rfl, rfl, trivial⟩, ?_⟩
    show st.l = _
    rw [a3]
    simp only [rtsB, rtsD, allL, if_true, List.append_nil, Int.toNat_natCast]
theorem rdB_keeps (x : Nat) (d : Bool × Rs) : (rdB x d).1.xid = x ∧ (rdB x d).1.denied = d.1 := by
  obtain ⟨d, st⟩ := d
  cases d <;> exact ⟨rfl, rfl⟩
theorem parseR_form (s : List UInt8) : ((parseR s).2 = 0 ∧ (((⟨s, 0⟩ : Rs).go 0 rdWord).2.go 0 rdWord).1 = 1 ∧ (parseR s).1.may ∧ s = (parseR s).1.lay) ∨ parseR s = (nulR, 121) := by
  unfold parseR
  by_cases hd : rdDone (rdReply ⟨s, 0⟩).2.l (rdReply ⟨s, 0⟩).2.e = 0
  · rw [if_pos hd]
    obtain ⟨he, hl⟩ := done_zero hd
    obtain ⟨x, d, hx⟩ : ∃ x d, rdHD ⟨s, 0⟩ = (x, d) := ⟨_, _, rfl⟩
    obtain ⟨b, hb⟩ : ∃ b, rdB x d = b := ⟨_, rfl⟩
    have hr : rdReply ⟨s, 0⟩ = rdE b := by unfold rdReply; rw [hx, hb]
    rw [hr] at he hl ⊢
    obtain ⟨e1, e2, e3⟩ := end_back b he
    obtain ⟨b1, b2, b3⟩ := body_back x d (by rw [hb]; exact e1)
    have hk := rdB_keeps x d
    rw [hb] at b2 b3 hk
    have hx1 : (rdHead 1 ⟨s, 0⟩).1 = x := congrArg Prod.fst hx
    have hx2 : (rdHead 1 ⟨s, 0⟩).2.go false rdBool = d := congrArg Prod.snd hx
    obtain ⟨d1, _, d3⟩ := go_one one_bool false (rdHead 1 ⟨s, 0⟩).2 (by rw [hx2]; exact b1)
    rw [hx2] at d3
    obtain ⟨h1, h2, h3, h4⟩ := head_back 1 ⟨s, 0⟩ d1
    rw [hx1] at h2 h4
    have hm : (rdE b).1.may := (reply_may _).2 ⟨⟨⟨trivial, by show isW b.1.xid; rw [hk.1]; exact nat_w h2, trivial, trivial, trivial⟩, b2⟩, e2⟩
    refine .inl ⟨rfl, by omega, hm, ?_⟩
    show s = _
    have h5 : s = _ := h4
    refine h5.trans ?_
    rw [← reply_lay_eq _ hm, d3, b3, e3, hl]
    have k1 : (rdE b).1.xid = (x : Int) := hk.1
    have k2 : (rdE b).1.denied = d.1 := hk.2
    have k3 : rtsB (rdE b).1 = rtsB b.1 := rfl
    have k4 : endM (rdE b).1 = endM b.1 := rfl
    have k5 : endA (rdE b).1 = endA b.1 := rfl
    have k6 : endS (rdE b).1 = endS b.1 := rfl
    rw [k3, k4, k5, k6]
    unfold rtsH
    rw [k1, k2]
    simp only [allL, List.append_assoc, List.append_nil, List.nil_append, Int.toNat_natCast]
    first | rfl | done
  · rw [if_neg hd]; exact .inr rfl
theorem parseR_there (r : ReplyP) (h : r.may) : parseR r.lay = (r, 0) := by
  obtain ⟨rx, rd, rv, ra, rl, rh, rr, rj, rw_⟩ := r
  obtain ⟨h1, h2⟩ := h
  have key : ∀ (st : Rs) (z : ReplyP), rdReply st = (z, ⟨[], 0⟩) → st.e = 0 → parseR st.l = (z, 0) := fun st z e e0 => by
    obtain ⟨l, E⟩ := st
    have e0 : E = 0 := e0
    subst e0
    unfold parseR
    rw [e]
    rfl
  have hd : ∀ t : List UInt8, rdHD ⟨nbL 4 rx.toNat ++ (nbL 4 1 ++ (nbL 4 (if rd then 1 else 0) ++ t)), 0⟩ = (rx.toNat, (rd, ⟨t, 0⟩)) := fun t => by
    unfold rdHD
    rw [show nbL 4 1 = nbL 4 (1 : Int).toNat from rfl, head_there (n := 1) (by decide) h1]
    simp only []
    rw [go_flag]
  cases rd
  · simp only [Bool.false_eq_true, if_false] at h2
    obtain ⟨hv, rfl, rfl, ha0, ha5, h7⟩ := h2
    have hlay : ReplyP.lay ⟨rx, false, rv, ra, rl, rh, rr, 0, 0⟩ = nbL 4 rx.toNat ++ (nbL 4 1 ++ (nbL 4 (if false then 1 else 0) ++ (rv.lay ++ (nbL 4 ra.toNat ++ ((if ra = 2 then nbL 4 rl.toNat ++ nbL 4 rh.toNat else []) ++ rr))))) := rfl
    refine hlay ▸ key ⟨_, 0⟩ _ ?_ rfl
    unfold rdReply
    rw [hd]
    have hb : rdB rx.toNat (false, ⟨rv.lay ++ (nbL 4 ra.toNat ++ ((if ra = 2 then nbL 4 rl.toNat ++ nbL 4 rh.toNat else []) ++ rr)), 0⟩) = (⟨rx, false, rv, ra, 0, 0, [], 0, 0⟩, ⟨(if ra = 2 then nbL 4 rl.toNat ++ nbL 4 rh.toNat else []) ++ rr, 0⟩) := by
      unfold rdB
      simp only [Bool.false_eq_true, if_false]
      rw [auth_there _ hv]
      simp only []
      rw [go_cnt ha0 ha5 (by decide)]
      simp only [(toNat_w h1).2, (toNat_w (show isW ra from ⟨ha0, by omega⟩)).2]
    rw [hb]
    rcases h7 with ⟨rfl, a1, rfl, rfl⟩ | ⟨rfl, a1, a2, rfl⟩ | ⟨a0, a1, rfl, rfl, rfl⟩
    · unfold rdE rdEQ endM endA endS
      simp only [Bool.false_eq_true, if_false, show ((0 : Int) == 2) = false from rfl, show ((0 : Int) == 0) = true from rfl, rdO_false, rdO_true, show ¬ (0 : Int) = 2 by decide, List.nil_append]
      rw [tail_there _ a1]
      rfl
    · unfold rdE rdEQ endM endA endS
      simp only [Bool.false_eq_true, if_false, show ((2 : Int) == 2) = true from rfl, show ((2 : Int) == 0) = false from rfl, rdO_false, rdO_true, if_true, List.append_nil]
      rw [go_word a1]
      simp only []
      have e := go_word a2 []
      rw [List.append_nil] at e
      rw [e]
      simp only [(toNat_w a1).2, (toNat_w a2).2]
      rfl
    · unfold rdE rdEQ endM endA endS
      simp only [Bool.false_eq_true, if_false, show (ra == 2) = false from beq_eq_false_iff_ne.2 a1, show (ra == 0) = false from beq_eq_false_iff_ne.2 a0, rdO_false, a1, List.append_nil]
      rfl
  · simp only [if_true] at h2
    obtain ⟨rfl, rfl, rfl, h5⟩ := h2
    have hlay : ReplyP.lay ⟨rx, true, nulA, 0, rl, rh, [], rj, rw_⟩ = nbL 4 rx.toNat ++ (nbL 4 1 ++ (nbL 4 (if true then 1 else 0) ++ (nbL 4 rj.toNat ++ (if rj = 1 then nbL 4 rw_.toNat else nbL 4 rl.toNat ++ nbL 4 rh.toNat)))) := rfl
    refine hlay ▸ key ⟨_, 0⟩ _ ?_ rfl
    unfold rdReply
    rw [hd]
    have hj : 0 ≤ rj ∧ rj ≤ 1 := by rcases h5 with ⟨rfl, _⟩ | ⟨rfl, _⟩ <;> decide
    have hb : rdB rx.toNat (true, ⟨nbL 4 rj.toNat ++ (if rj = 1 then nbL 4 rw_.toNat else nbL 4 rl.toNat ++ nbL 4 rh.toNat), 0⟩) = (⟨rx, true, nulA, 0, 0, 0, [], rj, 0⟩, ⟨(if rj = 1 then nbL 4 rw_.toNat else nbL 4 rl.toNat ++ nbL 4 rh.toNat), 0⟩) := by
      unfold rdB
      simp only [if_true]
      rw [go_cnt hj.1 hj.2 (by decide)]
      simp only [(toNat_w h1).2, (toNat_w (show isW rj from ⟨hj.1, by omega⟩)).2]
    rw [hb]
    rcases h5 with ⟨rfl, a1, a2, rfl⟩ | ⟨rfl, rfl, rfl, a3, a4⟩
    · unfold rdE rdEQ endM endA endS
      simp only [if_true, show ((0 : Int) == 0) = true from rfl, show ((0 : Int) == 1) = false from rfl, rdO_false, rdO_true, show ¬ (0 : Int) = 1 by decide, if_false]
      rw [go_word a1]
      simp only []
      have e := go_word a2 []
      rw [List.append_nil] at e
      rw [e]
      simp only [(toNat_w a1).2, (toNat_w a2).2]
      rfl
    · unfold rdE rdEQ endM endA endS
      simp only [if_true, show ((1 : Int) == 0) = false from rfl, show ((1 : Int) == 1) = true from rfl, rdO_false, rdO_true]
      have e := go_cnt a3 a4 (by decide) []
      rw [List.append_nil] at e
      rw [e]
      simp only [(toNat_w (show isW rw_ from ⟨a3, by omega⟩)).2]
      rfl
theorem lay_four (c : CallP) (h : c.may) : c.lay.length % 4 = 0 ∧ c.lay.length ≤ 1840 := by
  obtain ⟨_, _, _, _, _, h6, h7, h8⟩ := h
  have a1 := auth_len _ h6
  have a2 := auth_len _ h7
  unfold plainB at h8
  unfold CallP.lay
  simp only [List.length_append, nbL_len]
  omega
theorem rlay_four (r : ReplyP) (h : r.may) : r.lay.length % 4 = 0 ∧ r.lay.length ≤ 1840 := by
  obtain ⟨rx, rd, rv, ra, rl, rh, rr, rj, rw_⟩ := r
  obtain ⟨_, h2⟩ := h
  unfold ReplyP.lay
  cases rd
  · simp only [Bool.false_eq_true, if_false] at h2 ⊢
    obtain ⟨hv, _, _, _, _, h7⟩ := h2
    have a1 := auth_len _ hv
    have hr : plainB rr := by
      rcases h7 with ⟨_, a1, _⟩ | ⟨_, _, _, rfl⟩ | ⟨_, _, _, _, rfl⟩
      · exact a1
      · exact ⟨by simp, rfl⟩
      · exact ⟨by simp, rfl⟩
    unfold plainB at hr
    split <;> simp only [List.length_append, nbL_len, List.length_nil] <;> omega
  · by_cases hj : rj = 1
    · simp [hj, nbL_len]
    · simp [hj, nbL_len]
end Go.Proofs.YtfcbjcebkahehaaGreatDoor
namespace Go.Proofs.YtfcbjcebkahehaaGreatDoor
open Go.RowKit
theorem Bk.drew {w : World} {b : Nat} {cs : List Value} {t : TypeId} (h : Bk w b cs t) : Bk w.drew b cs t := h
theorem Bk.set8 {w : World} {b : Nat} {x0 x1 x2 x3 x4 x5 x6 x7 : Value} {t : TypeId} (h : Bk w b [x0, x1, x2, x3, x4, x5, x6, x7] t) (v0 v1 v2 v3 v4 v5 v6 v7 : Value) :
    Bk ((((((((w.setCell ⟨b, 0, none⟩ v0).setCell ⟨b, 1, none⟩ v1).setCell ⟨b, 2, none⟩ v2).setCell ⟨b, 3, none⟩ v3).setCell ⟨b, 4, none⟩ v4).setCell ⟨b, 5, none⟩ v5).setCell ⟨b, 6, none⟩ v6).setCell ⟨b, 7, none⟩ v7) b [v0, v1, v2, v3, v4, v5, v6, v7] t :=
  (((((((h.set 0 v0).set 1 v1).set 2 v2).set 3 v3).set 4 v4).set 5 v5).set 6 v6).set 7 v7
theorem set8_ne (w : World) (b k : Nat) (v0 v1 v2 v3 v4 v5 v6 v7 : Value) (h : k ≠ b) : ((((((((w.setCell ⟨b, 0, none⟩ v0).setCell ⟨b, 1, none⟩ v1).setCell ⟨b, 2, none⟩ v2).setCell ⟨b, 3, none⟩ v3).setCell ⟨b, 4, none⟩ v4).setCell ⟨b, 5, none⟩ v5).setCell ⟨b, 6, none⟩ v6).setCell ⟨b, 7, none⟩ v7).heap[k]? = w.heap[k]? := by
  iterate 8 rw [Below.heap_setCell _ _ _ k h]
theorem below_set8 {w0 w : World} {b B : Nat} (h : Below B w0 w) (hb : B ≤ b) (v0 v1 v2 v3 v4 v5 v6 v7 : Value) : Below B w0 ((((((((w.setCell ⟨b, 0, none⟩ v0).setCell ⟨b, 1, none⟩ v1).setCell ⟨b, 2, none⟩ v2).setCell ⟨b, 3, none⟩ v3).setCell ⟨b, 4, none⟩ v4).setCell ⟨b, 5, none⟩ v5).setCell ⟨b, 6, none⟩ v6).setCell ⟨b, 7, none⟩ v7) :=
  (((((((h.setCell hb v0).setCell hb v1).setCell hb v2).setCell hb v3).setCell hb v4).setCell hb v5).setCell hb v6).setCell hb v7
set_option maxRecDepth 4000 in
set_option maxHeartbeats 1000000 in
theorem told_any (b : Nat) (st us gr i q u : Int) (mc : List UInt8) (oa : Option Addr) (n cap : Nat) (w : World) (hk : Bk w b [.int .i64 st, .string ⟨mc.toArray⟩, .int .i64 us, .int .i64 gr, .slice oa n cap, .int .i64 i, .int .i64 q, .int .i64 u] 258) :
    Calls Tryz.prog 177 #[.pointer (some ⟨b, 0, none⟩)] w fun e w' => e = .returned (.agg #[.int .i64 i, .int .i64 q, .int .i64 u, .int .i64 st, .string ⟨mc.toArray⟩, .int .i64 us, .int .i64 gr, .slice oa n cap]) ∧ Below w.heap.size w w' := by
  have hlt := hk.lt
  obtain ⟨wa, hwa⟩ : ∃ x, w.alloc (.cells #[.int .i64 0, .int .i64 0, .int .i64 0, .int .i64 0, .string ⟨#[]⟩, .int .i64 0, .int .i64 0, .slice none 0 0] 131) = x := ⟨_, rfl⟩
  have HWA := hid hwa
  have hka : Bk wa b _ _ := hwa ▸ hk.below (below_new _ _) hlt
  have hkr : Bk wa w.heap.size [.int .i64 0, .int .i64 0, .int .i64 0, .int .i64 0, .string ⟨#[]⟩, .int .i64 0, .int .i64 0, .slice none 0 0] 131 := hwa ▸ Bk.new _ _ _
  have hB : Below w.heap.size w wa := hwa ▸ below_new _ _
  have c0 := hka.cell 0 rfl
  have c1 := hka.cell 1 rfl
  have c2 := hka.cell 2 rfl
  have c3 := hka.cell 3 rfl
  have c4 := hka.cell 4 rfl
  have c5 := hka.cell 5 rfl
  have c6 := hka.cell 6 rfl
  have c7 := hka.cell 7 rfl
  have k0 := hkr.cell 0 rfl
  have k1 := hkr.cell 1 rfl
  have k2 := hkr.cell 2 rfl
  have k3 := hkr.cell 3 rfl
  have k4 := hkr.cell 4 rfl
  have k5 := hkr.cell 5 rfl
  have k6 := hkr.cell 6 rfl
  have k7 := hkr.cell 7 rfl
  have f0 := hkr.frozen 0
  have f1 := hkr.frozen 1
  have f2 := hkr.frozen 2
  have f3 := hkr.frozen 3
  have f4 := hkr.frozen 4
  have f5 := hkr.frozen 5
  have f6 := hkr.frozen 6
  have f7 := hkr.frozen 7
  have HKR := hid hkr
  have HB := hid hB
  clear hk hka hkr hlt hwa hB
  go_enter Tryz.func177, Tryz.ntmps177
  go_wp2_with fail
  rw [HWA.out]
  go_region
  go_wp2
  generalize hW : World.drew _ = W
  have HZ : Bk W w.heap.size [.int .i64 i, .int .i64 q, .int .i64 u, .int .i64 st, .string ⟨mc.toArray⟩, .int .i64 us, .int .i64 gr, .slice oa n cap] 131 := by rw [← hW]; exact (HKR.out.set8 _ _ _ _ _ _ _ _).drew
  have HBW : Below w.heap.size w W := by rw [← hW]; exact (below_set8 HB.out (Nat.le_refl _) _ _ _ _ _ _ _ _).drew
  clear hW
  have q0 := HZ.cell 0 rfl
  have q1 := HZ.cell 1 rfl
  have q2 := HZ.cell 2 rfl
  have q3 := HZ.cell 3 rfl
  have q4 := HZ.cell 4 rfl
  have q5 := HZ.cell 5 rfl
  have q6 := HZ.cell 6 rfl
  have q7 := HZ.cell 7 rfl
  exact bodyPost_ret (v := .agg #[.int .i64 i, .int .i64 q, .int .i64 u, .int .i64 st, .string ⟨mc.toArray⟩, .int .i64 us, .int .i64 gr, .slice oa n cap]) (by simp [results, Tryz.results177, go_sem, q0, q1, q2, q3, q4, q5, q6, q7]) rfl ⟨rfl, HBW⟩
end Go.Proofs.YtfcbjcebkahehaaGreatDoor
namespace Go.Proofs.YtfcbjcebkahehaaGreatDoor
open Go.RowKit
/-- three numbers, and the state behind them: wrong, if they may not be -/
structure M3 where
  i : Int
  q : Int
  u : Int
  s : Rs
def rdM3 (st : Rs) : M3 := ⟨sg64 (rdMarkR st).a.1, sg64 (rdMarkR st).b.1, sg64 (rdMarkR st).c.1, (rdMarkR st).c.2⟩
def M3.st (m : M3) : Rs := if numsB m.i m.q m.u = true then m.s else ⟨m.s.l, if m.s.e = 0 then 111 else m.s.e⟩
theorem At.hyper {w0 w : World} {b p : Nat} {st : Rs} {cs : List Value} {t : TypeId} (h : At w0 w b p st cs t) :
    Calls Tryz.prog 188 #[.pointer (some ⟨p, 0, none⟩)] w fun e w' => e = .returned (.int .i64 (sg64 (st.go 0 rdHyper).1)) ∧ At w0 w' b p (st.go 0 rdHyper).2 cs t := by
  obtain ⟨l, E⟩ := st
  exact (rhyper_any p l E w h.r).mono fun e w' hp => ⟨hp.1, h.call hp.2.1 hp.2.2⟩
set_option maxRecDepth 4000 in
set_option maxHeartbeats 4000000 in
theorem mread_any (b p : Nat) (t : TypeId) (st : Rs) (w0 w : World) (h : At w0 w b p st ([.int .i64 0, .string ⟨#[]⟩, .int .i64 0, .int .i64 0, .slice none 0 0] ++ [.int .i64 0, .int .i64 0, .int .i64 0]) t) (hl : st.l.length ≤ 281474976710656) :
    Calls Tryz.prog 176 #[.pointer (some ⟨b, 0, none⟩), .pointer (some ⟨p, 0, none⟩)] w fun e w' => e = .returned (.tuple #[]) ∧ ∃ sl, At w0 w' b p (rdSys (rdM3 st).st).2 ([.int .i64 (rdSys (rdM3 st).st).1.stamp, .string ⟨(rdSys (rdM3 st).st).1.machine.toArray⟩, .int .i64 (rdSys (rdM3 st).st).1.user, .int .i64 (rdSys (rdM3 st).st).1.group, sl] ++ [.int .i64 (rdM3 st).i, .int .i64 (rdM3 st).q, .int .i64 (rdM3 st).u]) t ∧ OwnI w' (p + 1) sl (rdSys (rdM3 st).st).1.groups := by
  obtain ⟨a, ha⟩ : ∃ a, st.go 0 rdHyper = a := ⟨_, rfl⟩
  obtain ⟨m, hm⟩ : ∃ m, a.2.go 0 rdHyper = m := ⟨_, rfl⟩
  obtain ⟨c, hc⟩ : ∃ c, m.2.go 0 rdHyper = c := ⟨_, rfl⟩
  have h3 : rdM3 st = ⟨sg64 a.1, sg64 m.1, sg64 c.1, c.2⟩ := by
    unfold rdM3 rdMarkR
    simp only [ha, hm, hc]
  rw [h3]
  have hlc : c.2.l.length ≤ 281474976710656 := by
    rw [← hc, ← hm, ← ha]
    exact Nat.le_trans (go_len _ _ _) (Nat.le_trans (go_len _ _ _) (Nat.le_trans (go_len _ _ _) hl))
  have H0 := hid h
  have HA1 : Hid (∀ w1 cs, At w0 w1 b p st cs t → Calls Tryz.prog 188 #[.pointer (some ⟨p, 0, none⟩)] w1 fun e w' => e = .returned (.int .i64 (sg64 a.1)) ∧ At w0 w' b p a.2 cs t) := fun w1 cs h1 => by rw [← ha]; exact h1.hyper
  have HA2 : Hid (∀ w1 cs, At w0 w1 b p a.2 cs t → Calls Tryz.prog 188 #[.pointer (some ⟨p, 0, none⟩)] w1 fun e w' => e = .returned (.int .i64 (sg64 m.1)) ∧ At w0 w' b p m.2 cs t) := fun w1 cs h1 => by rw [← hm]; exact h1.hyper
  have HA3 : Hid (∀ w1 cs, At w0 w1 b p m.2 cs t → Calls Tryz.prog 188 #[.pointer (some ⟨p, 0, none⟩)] w1 fun e w' => e = .returned (.int .i64 (sg64 c.1)) ∧ At w0 w' b p c.2 cs t) := fun w1 cs h1 => by rw [← hc]; exact h1.hyper
  obtain ⟨an, as_⟩ := a
  obtain ⟨mn, ms⟩ := m
  obtain ⟨cn, cs⟩ := c
  simp only at HA1 HA2 HA3 hlc
  clear h3 ha hm hc h hl
  generalize sg64 an = A at HA1 ⊢
  generalize sg64 mn = B at HA2 ⊢
  generalize sg64 cn = C at HA3 ⊢
  have HFA : Hid (∀ w1 ds, At w0 w1 b p cs ds t → Calls Tryz.prog 189 #[.pointer (some ⟨p, 0, none⟩), .int .i64 111] w1 fun e w' => e = .returned (.tuple #[]) ∧ At w0 w' b p ⟨cs.l, if cs.e = 0 then 111 else cs.e⟩ ds t) := fun w1 ds h1 =>
    (rfail_any p 111 cs w1 h1.r).mono fun e w' hp => ⟨hp.1, h1.call (st' := ⟨cs.l, if cs.e = 0 then 111 else cs.e⟩) hp.2.1 hp.2.2⟩
  obtain ⟨sf, hsf⟩ : ∃ sf, (M3.st ⟨A, B, C, cs⟩) = sf := ⟨_, rfl⟩
  rw [hsf]
  have HLL : Hid (sf.l.length ≤ 281474976710656) := by
    show _ ≤ _
    rw [← hsf]; unfold M3.st
    simp only
    split
    · exact hlc
    · exact hlc
  have HSF : Hid (sf = if numsB A B C = true then cs else ⟨cs.l, if cs.e = 0 then 111 else cs.e⟩) := hsf.symm
  clear hsf hlc
  simp only
  go_enter Tryz.func176, Tryz.ntmps176
  go_wp2_with fail
  refine (HA1.out _ _ H0.out).mono ?_
  rintro e w1 ⟨rfl, h1⟩
  have k0 := h1.k.cell 5 rfl
  have f0 := h1.k.frozen 5
  have H1 : Hid (At w0 (w1.setCell ⟨b, 5, none⟩ (.int .i64 A)) b p as_ ([.int .i64 0, .string ⟨#[]⟩, .int .i64 0, .int .i64 0, .slice none 0 0] ++ [.int .i64 A, .int .i64 0, .int .i64 0]) t) := h1.set 5 _
  clear h1
  go_wp2_with fail
  refine (HA2.out _ _ H1.out).mono ?_
  rintro e w2 ⟨rfl, h2⟩
  have k0 := h2.k.cell 6 rfl
  have f0 := h2.k.frozen 6
  have H2 : Hid (At w0 (w2.setCell ⟨b, 6, none⟩ (.int .i64 B)) b p ms ([.int .i64 0, .string ⟨#[]⟩, .int .i64 0, .int .i64 0, .slice none 0 0] ++ [.int .i64 A, .int .i64 B, .int .i64 0]) t) := h2.set 6 _
  clear h2
  go_wp2_with fail
  refine (HA3.out _ _ H2.out).mono ?_
  rintro e w3 ⟨rfl, h3⟩
  have k0 := h3.k.cell 7 rfl
  have f0 := h3.k.frozen 7
  have H3 : Hid (At w0 (w3.setCell ⟨b, 7, none⟩ (.int .i64 C)) b p cs ([.int .i64 0, .string ⟨#[]⟩, .int .i64 0, .int .i64 0, .slice none 0 0] ++ [.int .i64 A, .int .i64 B, .int .i64 C]) t) := h3.set 7 _
  clear h3
  have HNU := hid (nums_any b A B C _ (H3.out.k.cell 5 rfl) (H3.out.k.cell 6 rfl) (H3.out.k.cell 7 rfl))
  cases hnb : numsB A B C
  · rw [hnb] at HNU
    have HS2 : Hid (sf = ⟨cs.l, if cs.e = 0 then 111 else cs.e⟩) := by have := HSF.out; rw [hnb] at this; exact this
    clear hnb HSF
    go_wp2_with fail
    refine HNU.out.mono ?_
    rintro e w8 ⟨rfl, hw⟩
    rw [hw]
    clear hw
    go_wp2_with fail
    refine (HFA.out _ _ H3.out).mono ?_
    rintro e W0 ⟨rfl, h4⟩
    rw [← HS2.out] at h4
    have H4 := hid h4
    clear h4
    have S4 := hid (readWho_any b p [.int .i64 A, .int .i64 B, .int .i64 C] t sf w0 W0 H4.out HLL.out)
    go_wp2_with fail
    refine S4.out.mono ?_
    rintro e w9 ⟨rfl, sl, h9, ho9⟩
    have H9 := hid (And.intro h9 ho9)
    clear h9 ho9 S4
    go_wp2
    first | go_end0 | refine bodyPost_ret (results_none rfl _ _ _) rfl ?_
    exact ⟨rfl, sl, H9.out.1, H9.out.2⟩
  · rw [hnb] at HNU
    have HS2 : Hid (sf = cs) := by have := HSF.out; rw [hnb] at this; exact this
    clear hnb HSF
    go_wp2_with fail
    refine HNU.out.mono ?_
    rintro e w8 ⟨rfl, hw⟩
    rw [hw]
    clear hw
    obtain ⟨W0, hW0⟩ : ∃ x, w3.setCell ⟨b, 7, none⟩ (.int .i64 C) = x := ⟨_, rfl⟩
    rw [hW0, ← HS2.out] at H3
    rw [hW0]
    have H4 := H3
    clear hW0 HNU
    have S4 := hid (readWho_any b p [.int .i64 A, .int .i64 B, .int .i64 C] t sf w0 W0 H4.out HLL.out)
    go_wp2_with fail
    refine S4.out.mono ?_
    rintro e w9 ⟨rfl, sl, h9, ho9⟩
    have H9 := hid (And.intro h9 ho9)
    clear h9 ho9 S4
    go_wp2
    first | go_end0 | refine bodyPost_ret (results_none rfl _ _ _) rfl ?_
    exact ⟨rfl, sl, H9.out.1, H9.out.2⟩
end Go.Proofs.YtfcbjcebkahehaaGreatDoor
