/- The program reads a mark. -/
import Derived.Test.YtihcdahmfdijoaaGreatDoorCm
namespace Go.Proofs.YtihcdahmfdijoaaGreatDoor
open Go.RowKit
/-- three numbers, and the state behind them: wrong, if they may not be -/
structure M3 where
  i : Int
  q : Int
  u : Int
  s : Rs
def rdM3 (st : Rs) : M3 := ⟨sg64 (rdMarkR st).a.1, sg64 (rdMarkR st).b.1, sg64 (rdMarkR st).c.1, (rdMarkR st).c.2⟩
def M3.st (m : M3) : Rs := if numsB m.i m.q m.u = true then m.s else ⟨m.s.l, if m.s.e = 0 then 111 else m.s.e⟩
theorem At.hyper {w0 w : World} {b p : Nat} {st : Rs} {cs : List Value} {t : TypeId} (h : At w0 w b p st cs t) :
    Calls Tryz.prog 47 #[.pointer (some ⟨p, 0, none⟩)] w fun e w' => e = .returned (.int .i64 (sg64 (st.go 0 rdHyper).1)) ∧ At w0 w' b p (st.go 0 rdHyper).2 cs t := by
  obtain ⟨l, E⟩ := st
  exact (rhyper_any p l E w h.r).mono fun e w' hp => ⟨hp.1, h.call hp.2.1 hp.2.2⟩
set_option maxRecDepth 4000 in
set_option maxHeartbeats 4000000 in
theorem mread_any (b p : Nat) (t : TypeId) (st : Rs) (w0 w : World) (h : At w0 w b p st ([.int .i64 0, .string ⟨#[]⟩, .int .i64 0, .int .i64 0, .slice none 0 0] ++ [.int .i64 0, .int .i64 0, .int .i64 0]) t) (hl : st.l.length ≤ 281474976710656) :
    Calls Tryz.prog 26 #[.pointer (some ⟨b, 0, none⟩), .pointer (some ⟨p, 0, none⟩)] w fun e w' => e = .returned (.tuple #[]) ∧ ∃ sl, At w0 w' b p (rdSys (rdM3 st).st).2 ([.int .i64 (rdSys (rdM3 st).st).1.stamp, .string ⟨(rdSys (rdM3 st).st).1.machine.toArray⟩, .int .i64 (rdSys (rdM3 st).st).1.user, .int .i64 (rdSys (rdM3 st).st).1.group, sl] ++ [.int .i64 (rdM3 st).i, .int .i64 (rdM3 st).q, .int .i64 (rdM3 st).u]) t ∧ OwnI w' (p + 1) sl (rdSys (rdM3 st).st).1.groups := by
  obtain ⟨a, ha⟩ : ∃ a, st.go 0 rdHyper = a := ⟨_, rfl⟩
  obtain ⟨m, hm⟩ : ∃ m, a.2.go 0 rdHyper = m := ⟨_, rfl⟩
  obtain ⟨c, hc⟩ : ∃ c, m.2.go 0 rdHyper = c := ⟨_, rfl⟩
  have h3 : rdM3 st = ⟨sg64 a.1, sg64 m.1, sg64 c.1, c.2⟩ := by
    unfold rdM3 rdMarkR
    simp only [ha, hm, hc]
  rw [h3]
  have hlc : c.2.l.length ≤ 281474976710656 := by
    rw [← hc, ← hm, ← ha]
    exact Nat.le_trans (go_len _ _ _) (Nat.le_trans (go_len _ _ _) (Nat.le_trans (go_len _ _ _) hl))
  have H0 := hid h
  have HA1 : Hid (∀ w1 cs, At w0 w1 b p st cs t → Calls Tryz.prog 47 #[.pointer (some ⟨p, 0, none⟩)] w1 fun e w' => e = .returned (.int .i64 (sg64 a.1)) ∧ At w0 w' b p a.2 cs t) := fun w1 cs h1 => by rw [← ha]; exact h1.hyper
  have HA2 : Hid (∀ w1 cs, At w0 w1 b p a.2 cs t → Calls Tryz.prog 47 #[.pointer (some ⟨p, 0, none⟩)] w1 fun e w' => e = .returned (.int .i64 (sg64 m.1)) ∧ At w0 w' b p m.2 cs t) := fun w1 cs h1 => by rw [← hm]; exact h1.hyper
  have HA3 : Hid (∀ w1 cs, At w0 w1 b p m.2 cs t → Calls Tryz.prog 47 #[.pointer (some ⟨p, 0, none⟩)] w1 fun e w' => e = .returned (.int .i64 (sg64 c.1)) ∧ At w0 w' b p c.2 cs t) := fun w1 cs h1 => by rw [← hc]; exact h1.hyper
  obtain ⟨an, as_⟩ := a
  obtain ⟨mn, ms⟩ := m
  obtain ⟨cn, cs⟩ := c
  simp only at HA1 HA2 HA3 hlc
  clear h3 ha hm hc h hl
  generalize sg64 an = A at HA1 ⊢
  generalize sg64 mn = B at HA2 ⊢
  generalize sg64 cn = C at HA3 ⊢
  have HFA : Hid (∀ w1 ds, At w0 w1 b p cs ds t → Calls Tryz.prog 49 #[.pointer (some ⟨p, 0, none⟩), .int .i64 111] w1 fun e w' => e = .returned (.tuple #[]) ∧ At w0 w' b p ⟨cs.l, if cs.e = 0 then 111 else cs.e⟩ ds t) := fun w1 ds h1 =>
    (rfail_any p 111 cs w1 h1.r).mono fun e w' hp => ⟨hp.1, h1.call (st' := ⟨cs.l, if cs.e = 0 then 111 else cs.e⟩) hp.2.1 hp.2.2⟩
  obtain ⟨sf, hsf⟩ : ∃ sf, (M3.st ⟨A, B, C, cs⟩) = sf := ⟨_, rfl⟩
  rw [hsf]
  have HLL : Hid (sf.l.length ≤ 281474976710656) := by
    show _ ≤ _
    rw [← hsf]; unfold M3.st
    simp only
    split
    · exact hlc
    · exact hlc
  have HSF : Hid (sf = if numsB A B C = true then cs else ⟨cs.l, if cs.e = 0 then 111 else cs.e⟩) := hsf.symm
  clear hsf hlc
  simp only
  go_enter Tryz.func26, Tryz.ntmps26
  go_wp2_with fail
  refine (HA1.out _ _ H0.out).mono ?_
  rintro e w1 ⟨rfl, h1⟩
  have k0 := h1.k.cell 5 rfl
  have f0 := h1.k.frozen 5
  have H1 : Hid (At w0 (w1.setCell ⟨b, 5, none⟩ (.int .i64 A)) b p as_ ([.int .i64 0, .string ⟨#[]⟩, .int .i64 0, .int .i64 0, .slice none 0 0] ++ [.int .i64 A, .int .i64 0, .int .i64 0]) t) := h1.set 5 _
  clear h1
  go_wp2_with fail
  refine (HA2.out _ _ H1.out).mono ?_
  rintro e w2 ⟨rfl, h2⟩
  have k0 := h2.k.cell 6 rfl
  have f0 := h2.k.frozen 6
  have H2 : Hid (At w0 (w2.setCell ⟨b, 6, none⟩ (.int .i64 B)) b p ms ([.int .i64 0, .string ⟨#[]⟩, .int .i64 0, .int .i64 0, .slice none 0 0] ++ [.int .i64 A, .int .i64 B, .int .i64 0]) t) := h2.set 6 _
  clear h2
  go_wp2_with fail
  refine (HA3.out _ _ H2.out).mono ?_
  rintro e w3 ⟨rfl, h3⟩
  have k0 := h3.k.cell 7 rfl
  have f0 := h3.k.frozen 7
  have H3 : Hid (At w0 (w3.setCell ⟨b, 7, none⟩ (.int .i64 C)) b p cs ([.int .i64 0, .string ⟨#[]⟩, .int .i64 0, .int .i64 0, .slice none 0 0] ++ [.int .i64 A, .int .i64 B, .int .i64 C]) t) := h3.set 7 _
  clear h3
  have HNU := hid (nums_any b A B C _ (H3.out.k.cell 5 rfl) (H3.out.k.cell 6 rfl) (H3.out.k.cell 7 rfl))
  cases hnb : numsB A B C
  · rw [hnb] at HNU
    have HS2 : Hid (sf = ⟨cs.l, if cs.e = 0 then 111 else cs.e⟩) := by have := HSF.out; rw [hnb] at this; exact this
    clear hnb HSF
    go_wp2_with fail
    refine HNU.out.mono ?_
    rintro e w8 ⟨rfl, hw⟩
    rw [hw]
    clear hw
    go_wp2_with fail
    refine (HFA.out _ _ H3.out).mono ?_
    rintro e W0 ⟨rfl, h4⟩
    rw [← HS2.out] at h4
    have H4 := hid h4
    clear h4
    have S4 := hid (readWho_any b p [.int .i64 A, .int .i64 B, .int .i64 C] t sf w0 W0 H4.out HLL.out)
    go_wp2_with fail
    refine S4.out.mono ?_
    rintro e w9 ⟨rfl, sl, h9, ho9⟩
    have H9 := hid (And.intro h9 ho9)
    clear h9 ho9 S4
    go_wp2
    first | go_end0 | refine bodyPost_ret (results_none rfl _ _ _) rfl ?_
    exact ⟨rfl, sl, H9.out.1, H9.out.2⟩
  · rw [hnb] at HNU
    have HS2 : Hid (sf = cs) := by have := HSF.out; rw [hnb] at this; exact this
    clear hnb HSF
    go_wp2_with fail
    refine HNU.out.mono ?_
    rintro e w8 ⟨rfl, hw⟩
    rw [hw]
    clear hw
    obtain ⟨W0, hW0⟩ : ∃ x, w3.setCell ⟨b, 7, none⟩ (.int .i64 C) = x := ⟨_, rfl⟩
    rw [hW0, ← HS2.out] at H3
    rw [hW0]
    have H4 := H3
    clear hW0 HNU
    have S4 := hid (readWho_any b p [.int .i64 A, .int .i64 B, .int .i64 C] t sf w0 W0 H4.out HLL.out)
    go_wp2_with fail
    refine S4.out.mono ?_
    rintro e w9 ⟨rfl, sl, h9, ho9⟩
    have H9 := hid (And.intro h9 ho9)
    clear h9 ho9 S4
    go_wp2
    first | go_end0 | refine bodyPost_ret (results_none rfl _ _ _) rfl ?_
    exact ⟨rfl, sl, H9.out.1, H9.out.2⟩
end Go.Proofs.YtihcdahmfdijoaaGreatDoor
