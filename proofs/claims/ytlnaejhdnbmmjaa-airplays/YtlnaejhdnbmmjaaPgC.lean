/- The program's Air: Flying, Drop, Double. The program's Air: Deliver. -/
import Derived.Test.YtlnaejhdnbmmjaaPgB
namespace Go.Proofs.Ytlnaejhdnbmmjaa
open Go.RowKit
theorem hid {T : Prop} (h : T) : Hid T := h
def Bk (w : World) (b : Nat) (cs : List Value) (t : TypeId) : Prop := w.heap[b]? = some (.cells cs.toArray t)
section
variable {w w' : World} {b b' : Nat} {cs : List Value} {t : TypeId}
theorem Bk.cell (h : Bk w b cs t) (i : Nat) {v : Value} (hv : cs[i]? = some v) : w.cell? ⟨b, i, none⟩ = some v := by
  unfold Bk at h
  simp [World.cell?, h, hv]
theorem Bk.frozen (h : Bk w b cs t) (i : Nat) : w.frozen? ⟨b, i, none⟩ = false := by
  unfold Bk at h
  simp [World.frozen?, h]
theorem Bk.lt (h : Bk w b cs t) : b < w.heap.size := (Array.getElem?_eq_some_iff.1 h).1
theorem Bk.set (h : Bk w b cs t) (i : Nat) (v : Value) : Bk (w.setCell ⟨b, i, none⟩ v) b (cs.set i v) t := by
  unfold Bk at h ⊢
  simp [World.setCell, Array.getElem?_modify, h]
theorem Bk.set_ne (h : Bk w b cs t) (hb : b ≠ b') (i : Nat) (v : Value) : Bk (w.setCell ⟨b', i, none⟩ v) b cs t := (Below.heap_setCell _ _ _ _ hb).trans h
theorem Bk.new (w : World) (cs : List Value) (t : TypeId) : Bk (w.alloc (.cells cs.toArray t)) w.heap.size cs t := heap_alloc_new _ _
theorem Bk.below {B : Nat} (h : Bk w b cs t) (hB : Below B w w') (hb : b < B) : Bk w' b cs t := (hB.block b hb).trans h
theorem Bk.of (h : Bk w b cs t) (hb : w'.heap[b]? = w.heap[b]?) : Bk w' b cs t := hb.trans h
theorem Bk.drew (h : Bk w b cs t) : Bk w.drew b cs t := h
end
theorem below_new (w : World) (o : Obj) : Below w.heap.size w (w.alloc o) := (Below.refl _ _).alloc (Nat.le_refl _) _
theorem below_drew {B : Nat} {a w : World} (h : Below B a w) (k : Nat) : Below B a (w.drewN k) := ⟨h.os, h.tape, h.output, h.size, h.block⟩
theorem grown_refl (w : World) (o : Option Nat) : w.grownBy w o := ⟨rfl, rfl, rfl, Nat.le_refl _, fun _ _ _ => rfl⟩
theorem grown_trans {a b c : World} {p : Nat} (h : a.grownBy b (some p)) (k : b.grownBy c (some p)) : a.grownBy c (some p) :=
  ⟨k.os.trans h.os, k.tape.trans h.tape, k.output.trans h.output, Nat.le_trans h.size k.size, fun i hi hp => (k.block i (Nat.lt_of_lt_of_le hi h.size) hp).trans (h.block i hi hp)⟩
theorem grown_below {a b : World} (h : Below a.heap.size a b) (o : Option Nat) : a.grownBy b o := ⟨h.os, h.tape, h.output, h.size, fun k hk _ => h.block k hk⟩
theorem below_none {a b : World} (h : a.grownBy b none) : Below a.heap.size a b := ⟨h.os, h.tape, h.output, h.size, fun k hk => h.block k hk (by simp)⟩
theorem Bk.grown {w w' : World} {b p : Nat} {cs : List Value} {t : TypeId} (h : Bk w b cs t) (hg : w.grownBy w' (some p)) (hb : b ≠ p) : Bk w' b cs t := (hg.block b h.lt (by simpa using hb)).trans h

/-- What Flying gives: new memory, or none. -/
def FlyP (w w' : World) (l : List Pk) (oa : Option Addr) (cap : Nat) : Prop :=
  (l = [] ∧ cap = 0) ∨ (oa = some ⟨w.heap.size, 0, none⟩ ∧ w'.ownsRow w.heap.size 37 3 (.slice oa l.length cap) l.length (pks l))
theorem fly_run {w : World} {p : Nat} {l : List Pk} {now : Int} {oa : Option Addr} {c g : Nat} (ty : TypeId) (h : PA w p l now oa c g) :
    ∃ ob cap w', (Builtin.append_ #[43, 43] ty #[cutV oa 0 0, .slice oa l.length c]).run Try.prog w = .ok (.slice ob l.length cap) w' ∧ FlyP w w' l ob cap ∧ w.grownBy w' none := by
  rw [cutV2 oa _ _ rfl]
  rcases Nat.eq_zero_or_pos l.length with h0 | h0
  · obtain rfl := List.eq_nil_of_length_eq_zero h0
    exact ⟨oa, 0, w, app_none w ty oa oa 0 0 c (Nat.le_refl _), .inl ⟨rfl, rfl⟩, grown_refl _ _⟩
  · have hoa : oa = some ⟨g, 0, none⟩ := by
      rcases h.oa with e | ⟨_, e, _⟩
      · exact e
      · subst e; simp at h0
    have hm := h.most
    obtain ⟨cap, w', hr, ho, hg, hs⟩ := app_grow w ty oa 0 [] l g g 0 c rfl (.inl hoa) ⟨fun i t h => by simp at h, fun i t h => by simp at h, fun i t h => by simp at h⟩ h.at_ h0 (by omega)
    simp only [Nat.zero_add, List.nil_append] at hr ho
    subst hoa
    exact ⟨_, cap, w', hr, .inr ⟨rfl, ho⟩, hg⟩
set_option maxHeartbeats 1000000 in
theorem flying_any {w : World} {p : Nat} {l : List Pk} {now : Int} {oa : Option Addr} {c g : Nat} (h : PA w p l now oa c g) :
    Calls Try.prog 17 #[.pointer (some ⟨p, 0, none⟩)] w fun e w' => ∃ ob cap, e = .returned (.slice ob l.length cap) ∧ FlyP w w' l ob cap ∧ Below w.heap.size w w' := by
  obtain ⟨ob, cap, w', hr, hF, hg⟩ := fly_run 43 h.drew
  have H1 : Hid (Calls Try.prog 33 #[.pointer (some ⟨p, 0, none⟩), .int .i64 0, .int .i64 0] w.drew fun e w' => e = .returned (cutV oa 0 0) ∧ w' = w.drew) := cut_any 0 0 h.drew (by omega) (by omega)
  have HR := hid hr
  have HF : Hid (FlyP w w' l ob cap ∧ Below w.heap.size w w') := ⟨hF, ⟨hg.os, hg.tape, hg.output, hg.size, fun k hk => hg.block k hk (by simp)⟩⟩
  have h0 := h.c0
  generalize cutV oa 0 0 = V1 at *
  generalize hL : l.length = m at *
  clear hr hg hF h
  go_enter Try.func17, Try.ntmps17
  go_wp2_with fail
  go_region_law (first
    | (refine step_call3 rfl 33 (.tmp 3) (.const (.int .i64 0)) (.const (.int .i64 0)) #[25, 3, 3] rfl (.pointer (some ⟨p, 0, none⟩)) (.int .i64 0) (.int .i64 0) (by go_simp) (by go_simp) (by go_simp) cf33 _ H1.out ?_; rintro e w2 ⟨rfl, rfl⟩; refine ⟨_, rfl, ?_⟩)
    | (refine step_app rfl (.tmp 4) (.tmp 8) 43 rfl V1 (.slice oa m c) _ _ (by go_simp) (by go_simp) HR.out ?_))
  all_goals (
    go_wp2
    go_ret
    exact ⟨_, _, rfl, HF.out⟩)

def dropE (l : List Pk) (n : Int) : Int := if hasP l n = true then 0 else 130
def dropL (l : List Pk) (n : Int) : List Pk := if hasP l n = true then without l n.toNat else l
theorem hasP_nat {l : List Pk} {n : Int} (h : hasP l n = true) : ∃ k : Nat, n = k ∧ k < l.length := by
  unfold hasP at h
  simp at h
  exact ⟨n.toNat, by omega, by omega⟩

theorem drop_any {w : World} {p : Nat} {l : List Pk} {now : Int} {oa : Option Addr} {c g : Nat} (n : Int) (h : PA w p l now oa c g) :
    Calls Try.prog 13 #[.pointer (some ⟨p, 0, none⟩), .int .i64 n] w fun e w' => e = .returned (.int .i64 (dropE l n)) ∧ PAx w w' p (dropL l n) now g ∧ w.grownBy w' (some p) := by
  have H1 := hid (has_any n h)
  unfold dropE dropL
  cases hh : hasP l n
  · rw [if_neg (by simp), if_neg (by simp)]
    rw [hh] at H1
    have HP := hid h
    clear hh h
    go_enter Try.func13, Try.ntmps13
    go_wp2_with (first | (go_at_call 29; refine H1.out.mono ?_; rintro e w' ⟨rfl, rfl⟩))
    go_ret
    exact ⟨rfl, HP.out.x _, grown_refl _ _⟩
  · rw [if_pos rfl, if_pos rfl]
    obtain ⟨k, rfl, hk⟩ := hasP_nat hh
    have H2 := hid (take_any k h hk)
    rw [hh] at H1
    rw [Int.toNat_natCast]
    clear hh h hk
    go_enter Try.func13, Try.ntmps13
    go_wp2_with (first | (go_at_call 29; refine H1.out.mono ?_; rintro e w' ⟨rfl, rfl⟩))
    refine H2.out.mono ?_
    rintro e w' ⟨rfl, h2⟩
    have HP := hid h2
    clear h2
    go_wp2
    go_ret
    exact ⟨rfl, HP.out⟩

def dblE (l : List Pk) (n : Int) : Int := if hasP l n = true then putE l else 130
def dblL (l : List Pk) (n : Int) : List Pk := if hasP l n = true then putL l (l.getD n.toNat ⟨0, 0, ⟨#[]⟩⟩) else l
theorem double_any {w : World} {p : Nat} {l : List Pk} {now : Int} {oa : Option Addr} {c g : Nat} (n : Int) (h : PA w p l now oa c g) :
    Calls Try.prog 14 #[.pointer (some ⟨p, 0, none⟩), .int .i64 n] w fun e w' => e = .returned (.int .i64 (dblE l n)) ∧ PAx w w' p (dblL l n) now g ∧ w.grownBy w' (some p) := by
  have H1 := hid (has_any n h)
  unfold dblE dblL
  cases hh : hasP l n
  · rw [if_neg (by simp), if_neg (by simp)]
    rw [hh] at H1
    have HP := hid h
    clear hh h
    go_enter Try.func14, Try.ntmps14
    go_wp2_with (first | (go_at_call 29; refine H1.out.mono ?_; rintro e w' ⟨rfl, rfl⟩))
    go_ret
    exact ⟨rfl, HP.out.x _, grown_refl _ _⟩
  · rw [if_pos rfl, if_pos rfl]
    obtain ⟨k, rfl, hk⟩ := hasP_nat hh
    rw [Int.toNat_natCast]
    obtain ⟨x, hx⟩ : ∃ x, l.getD k ⟨0, 0, ⟨#[]⟩⟩ = x := ⟨_, rfl⟩
    have hx2 : l[k]? = some x := by rw [← hx]; simp [List.getD, List.getElem?_eq_getElem hk]
    rw [hx]
    have hoa : oa = some ⟨g, 0, none⟩ := by
      rcases h.oa with e | ⟨_, e, _⟩
      · exact e
      · subst e; simp at hk
    subst hoa
    have H2 := hid (put_any x h)
    rw [hh] at H1
    have h0 := h.c0
    have a0 := h.at_.c0 k x hx2
    have a1 := h.at_.c1 k x hx2
    have a2 := h.at_.c2 k x hx2
    rw [Nat.zero_add] at a0 a1 a2
    have hk' : (k : Int) < (l.length : Int) := by omega
    generalize l.length = m at *
    clear hh h hx hx2
    go_enter Try.func14, Try.ntmps14
    go_wp2_with (first | (go_at_call 29; refine H1.out.mono ?_; rintro e w' ⟨rfl, rfl⟩) | (go_at_call 31; refine H2.out.mono ?_; rintro e w' ⟨rfl, h2⟩; have HP := hid h2; clear h2))
    go_ret
    exact ⟨rfl, HP.out⟩

def sendE (l : List Pk) (x : Pk) : Int := if x.da.size ≤ 1500 then putE l else 131
def sendL (l : List Pk) (x : Pk) : List Pk := if x.da.size ≤ 1500 then putL l x else l
set_option maxHeartbeats 1000000 in
theorem send_any {w : World} {p : Nat} {l : List Pk} {now : Int} {oa : Option Addr} {c g : Nat} (x : Pk) (h : PA w p l now oa c g) :
    Calls Try.prog 15 #[.pointer (some ⟨p, 0, none⟩), pkA x] w fun e w' => e = .returned (.int .i64 (sendE l x)) ∧ PAx w w' p (sendL l x) now g ∧ w.grownBy w' (some p) := by
  unfold sendE sendL
  obtain ⟨w1, hw1⟩ : ∃ w1, w.alloc (.cells #[.int .i64 x.fr, .int .i64 x.to, .string x.da] 37) = w1 := ⟨_, rfl⟩
  have hB1 : Below w.heap.size w w1 := by rw [← hw1]; exact below_new _ _
  have hk1 : Bk w1 w.heap.size [.int .i64 x.fr, .int .i64 x.to, .string x.da] 37 := by rw [← hw1]; exact Bk.new w [.int .i64 x.fr, .int .i64 x.to, .string x.da] 37
  have h1 := h.below hB1
  have x2 := hk1.cell 2 rfl
  have hlt := h.lt
  by_cases hl : x.da.size ≤ 1500
  · rw [if_pos hl, if_pos hl]
    have hd : decide ((1500 : Int) < (x.da.size : Int)) = false := decide_eq_false (by omega)
    have H1 := hid (clone_any x.da w1 (by omega))
    have HX : Hid (PA w p l now oa c g) := h
    have HH : Hid (PA w1 p l now oa c g ∧ Bk w1 w.heap.size [.int .i64 x.fr, .int .i64 x.to, .string x.da] 37 ∧ Below w.heap.size w w1 ∧ p < w.heap.size) := ⟨h1, hk1, hB1, hlt⟩
    clear hl h1 hB1 hk1 h hlt
    go_enter Try.func15, Try.ntmps15
    go_wp2_with fail
    clear hw1 x2 hd
    refine H1.out.mono ?_
    rintro e w2 ⟨rfl, hB2⟩
    obtain ⟨h1, hk1, hB1, hlt⟩ := HH.out
    have hk2 := hk1.below hB2 hk1.lt
    have h2 := h1.below hB2
    have y0 := hk2.cell 0 rfl
    have y1 := hk2.cell 1 rfl
    have y2 := hk2.cell 2 rfl
    have f2 := hk2.frozen 2
    obtain ⟨w3, hw3⟩ : ∃ w3, w2.setCell ⟨w.heap.size, 2, none⟩ (.string x.da) = w3 := ⟨_, rfl⟩
    have hk3 : Bk w3 w.heap.size [.int .i64 x.fr, .int .i64 x.to, .string x.da] 37 := by rw [← hw3]; exact hk2.set 2 (.string x.da)
    have hB3 : Below w.heap.size w w3 := by rw [← hw3]; exact (hB1.trans (hB2.mono hB1.size)).setCell (Nat.le_refl _) _
    have H3 := hid (put_any x (HX.out.below hB3))
    have z0 := hk3.cell 0 rfl
    have z1 := hk3.cell 1 rfl
    have z2 := hk3.cell 2 rfl
    have HB3 := hid hB3
    clear h1 hk1 hB1 hlt hk2 h2 hk3 hB3 hB2
    go_wp2_with fail
    clear hw3
    refine H3.out.mono ?_
    rintro e w4 ⟨rfl, h4, g4⟩
    have HP : Hid (PAx w w4 p (putL l x) now g ∧ w.grownBy w4 (some p)) := ⟨h4.mono HB3.out.size, grown_trans (grown_below HB3.out _) g4⟩
    clear h4 g4
    go_wp2
    go_ret
    exact ⟨rfl, HP.out⟩
  · rw [if_neg hl, if_neg hl]
    have hd : decide ((1500 : Int) < (x.da.size : Int)) = true := decide_eq_true (by omega)
    have HP : Hid (PAx w w1 p l now g ∧ w.grownBy w1 (some p)) := ⟨h1.x _, grown_below hB1 _⟩
    clear hl h1 hB1 hk1 h hlt
    go_enter Try.func15, Try.ntmps15
    go_wp2
    go_ret
    exact ⟨rfl, HP.out⟩
end Go.Proofs.Ytlnaejhdnbmmjaa
namespace Go.Proofs.Ytlnaejhdnbmmjaa
open Go.RowKit
def nulP : Pk := ⟨0, 0, ⟨#[]⟩⟩
def dlvP (l : List Pk) (n : Int) : Pk := if hasP l n = true then l.getD n.toNat nulP else nulP
theorem Bk.set3 {w : World} {b : Nat} {x0 x1 x2 : Value} {t : TypeId} (h : Bk w b [x0, x1, x2] t) (v0 v1 v2 : Value) : Bk (((w.setCell ⟨b, 0, none⟩ v0).setCell ⟨b, 1, none⟩ v1).setCell ⟨b, 2, none⟩ v2) b [v0, v1, v2] t := ((h.set 0 v0).set 1 v1).set 2 v2
theorem grown_set3 {a w : World} {b : Nat} {p : Option Nat} (h : a.grownBy w p) (hb : a.heap.size ≤ b) (v0 v1 v2 : Value) : a.grownBy (((w.setCell ⟨b, 0, none⟩ v0).setCell ⟨b, 1, none⟩ v1).setCell ⟨b, 2, none⟩ v2) p :=
  ⟨h.os, h.tape, h.output, by simpa using h.size, fun k hk hp => by
    rw [Below.heap_setCell _ _ _ k (show k ≠ b by omega), Below.heap_setCell _ _ _ k (show k ≠ b by omega), Below.heap_setCell _ _ _ k (show k ≠ b by omega)]
    exact h.block k hk hp⟩
theorem PA.set3 {w : World} {p : Nat} {l : List Pk} {now : Int} {oa : Option Addr} {c g b : Nat} (h : PA w p l now oa c g) (hp : p ≠ b) (hg : 0 < l.length → g ≠ b) (v0 v1 v2 : Value) : PA (((w.setCell ⟨b, 0, none⟩ v0).setCell ⟨b, 1, none⟩ v1).setCell ⟨b, 2, none⟩ v2) p l now oa c g := by
  refine h.kept ?_ fun h0 => ?_
  · rw [Below.heap_setCell _ _ _ p hp, Below.heap_setCell _ _ _ p hp, Below.heap_setCell _ _ _ p hp]
  · rw [Below.heap_setCell _ _ _ g (hg h0), Below.heap_setCell _ _ _ g (hg h0), Below.heap_setCell _ _ _ g (hg h0)]
set_option maxHeartbeats 1000000 in
theorem deliver_any {w : World} {p : Nat} {l : List Pk} {now : Int} {oa : Option Addr} {c g : Nat} (n : Int) (h : PA w p l now oa c g) :
    Calls Try.prog 12 #[.pointer (some ⟨p, 0, none⟩), .int .i64 n] w fun e w' => e = .returned (.tuple #[pkA (dlvP l n), .int .i64 (dropE l n)]) ∧ PAx w w' p (dropL l n) now g ∧ w.grownBy w' (some p) := by
  obtain ⟨wa, hwa⟩ : ∃ wa, w.alloc (.cells #[.int .i64 0, .int .i64 0, .string ⟨#[]⟩] 37) = wa := ⟨_, rfl⟩
  have hBa : Below w.heap.size w wa := by rw [← hwa]; exact below_new _ _
  have hka : Bk wa w.heap.size [.int .i64 0, .int .i64 0, .string ⟨#[]⟩] 37 := by rw [← hwa]; exact Bk.new w [.int .i64 0, .int .i64 0, .string ⟨#[]⟩] 37
  have hsa : wa.heap.size = w.heap.size + 1 := by rw [← hwa]; simp
  have ha := h.below hBa
  have H1 := hid (has_any n ha)
  have hlt := h.lt
  have hgl := h.at_.lt
  unfold dropE dropL dlvP
  cases hh : hasP l n
  · rw [if_neg (by simp), if_neg (by simp), if_neg (by simp)]
    rw [hh] at H1
    have hz := hka.set3 (.int .i64 0) (.int .i64 0) (.string ⟨#[]⟩)
    have q0 := hz.cell 0 rfl
    have q1 := hz.cell 1 rfl
    have q2 := hz.cell 2 rfl
    have s0 := hka.cell 0 rfl
    have s1 := hka.cell 1 rfl
    have s2 := hka.cell 2 rfl
    have f0 := hka.frozen 0
    have f1 := hka.frozen 1
    have f2 := hka.frozen 2
    have HP : Hid (PAx w (((wa.setCell ⟨w.heap.size, 0, none⟩ (.int .i64 0)).setCell ⟨w.heap.size, 1, none⟩ (.int .i64 0)).setCell ⟨w.heap.size, 2, none⟩ (.string ⟨#[]⟩)) p l now g ∧ w.grownBy (((wa.setCell ⟨w.heap.size, 0, none⟩ (.int .i64 0)).setCell ⟨w.heap.size, 1, none⟩ (.int .i64 0)).setCell ⟨w.heap.size, 2, none⟩ (.string ⟨#[]⟩)) (some p)) :=
      ⟨(ha.set3 (by omega) (fun h0 => by have := hgl h0; omega) _ _ _).x _, grown_set3 (grown_below hBa _) (Nat.le_refl _) _ _ _⟩
    clear hh h hBa hka hsa ha hz hlt hgl
    go_enter Try.func12, Try.ntmps12
    go_wp2_with fail
    clear hwa
    refine H1.out.mono ?_
    rintro e w2 ⟨rfl, rfl⟩
    go_wp2
    refine bodyPost_ret (v := .tuple #[pkA nulP, .int .i64 130]) (by simp [results, Try.results12, go_sem, q0, q1, q2, nulP]) rfl ⟨rfl, HP.out⟩
  · rw [if_pos rfl, if_pos rfl, if_pos rfl]
    obtain ⟨k, rfl, hk⟩ := hasP_nat hh
    rw [Int.toNat_natCast]
    obtain ⟨x, hx⟩ : ∃ x, l.getD k nulP = x := ⟨_, rfl⟩
    have hx2 : l[k]? = some x := by rw [← hx]; simp [List.getD, List.getElem?_eq_getElem hk]
    rw [hx]
    have hoa : oa = some ⟨g, 0, none⟩ := by
      rcases h.oa with e | ⟨_, e, _⟩
      · exact e
      · subst e; simp at hk
    subst hoa
    rw [hh] at H1
    have hgg := hgl (by omega)
    obtain ⟨wb, hwb⟩ : ∃ wb, wa.alloc (.cells #[.int .i64 x.fr, .int .i64 x.to, .string x.da] 37) = wb := ⟨_, rfl⟩
    have hBb : Below wa.heap.size wa wb := by rw [← hwb]; exact below_new _ _
    have hkb : Bk wb wa.heap.size [.int .i64 x.fr, .int .i64 x.to, .string x.da] 37 := by rw [← hwb]; exact Bk.new wa [.int .i64 x.fr, .int .i64 x.to, .string x.da] 37
    have hkab := hka.below hBb hka.lt
    have hb := ha.below hBb
    have H2 := hid (take_any k hb hk)
    have h0 := ha.c0
    have a0 := ha.at_.c0 k x hx2
    have a1 := ha.at_.c1 k x hx2
    have a2 := ha.at_.c2 k x hx2
    rw [Nat.zero_add] at a0 a1 a2
    have hk' : (k : Int) < (l.length : Int) := by omega
    have HH : Hid (Bk wb wa.heap.size [.int .i64 x.fr, .int .i64 x.to, .string x.da] 37 ∧ Bk wb w.heap.size [.int .i64 0, .int .i64 0, .string ⟨#[]⟩] 37 ∧ Below w.heap.size w wb ∧ p < w.heap.size ∧ wa.heap.size = w.heap.size + 1 ∧ g < w.heap.size) := ⟨hkb, hkab, hBa.trans (hBb.mono (by omega)), hlt, hsa, hgg⟩
    generalize hL : l.length = m at *
    clear hh h hx hx2 hBa hka hsa ha hlt hgl hBb hkb hkab hb hgg
    go_enter Try.func12, Try.ntmps12
    go_wp2_with fail
    clear hwa
    refine H1.out.mono ?_
    rintro e w2 ⟨rfl, rfl⟩
    go_wp2_with fail
    clear hwb
    refine H2.out.mono ?_
    rintro e w3 ⟨rfl, ⟨o3, c3, g3, h3, hx3⟩, hg3⟩
    obtain ⟨hkb, hkab, hB, hlt, hsa, hgg⟩ := HH.out
    have k1 := hkb.grown hg3 (by omega)
    have k2 := hkab.grown hg3 (by omega)
    have s0 := k1.cell 0 rfl
    have s1 := k1.cell 1 rfl
    have s2 := k1.cell 2 rfl
    have t0 := k2.cell 0 rfl
    have t1 := k2.cell 1 rfl
    have t2 := k2.cell 2 rfl
    have f0 := k2.frozen 0
    have f1 := k2.frozen 1
    have f2 := k2.frozen 2
    have hz := k2.set3 (.int .i64 x.fr) (.int .i64 x.to) (.string x.da)
    have q0 := hz.cell 0 rfl
    have q1 := hz.cell 1 rfl
    have q2 := hz.cell 2 rfl
    have hsb := hkb.lt
    have HP : Hid (PAx w (((w3.setCell ⟨w.heap.size, 0, none⟩ (.int .i64 x.fr)).setCell ⟨w.heap.size, 1, none⟩ (.int .i64 x.to)).setCell ⟨w.heap.size, 2, none⟩ (.string x.da)) p (without l k) now g ∧ w.grownBy (((w3.setCell ⟨w.heap.size, 0, none⟩ (.int .i64 x.fr)).setCell ⟨w.heap.size, 1, none⟩ (.int .i64 x.to)).setCell ⟨w.heap.size, 2, none⟩ (.string x.da)) (some p)) :=
      ⟨⟨_, _, _, h3.set3 (by omega) (fun _ => by omega) _ _ _, by simp; omega⟩, grown_set3 (grown_trans (grown_below hB _) hg3) (Nat.le_refl _) _ _ _⟩
    clear hkb hkab hB hlt hsa hgg k1 k2 hz h3 hx3 hg3 hsb
    go_wp2
    refine bodyPost_ret (v := .tuple #[pkA x, .int .i64 0]) (by simp [results, Try.results12, go_sem, q0, q1, q2]) rfl ⟨rfl, HP.out⟩
end Go.Proofs.Ytlnaejhdnbmmjaa
