/- Proved: whatever the input, where what is read is of bulk at most 1048576, the law CacheRooms of callboxlaw15 (Q6, P5: clients that keep to a window of Entries, and say a water that is the least call that they wait for, or the next one, with bytes for all: nobody who is known is ever refused room, in whatever order what they send arrives; a call that waits still is told busy or done, never old) returns true, and each argument reads behind the call as it read before. The condition is the statement's own. -/
import Derived.Test.YtnpffhgmakbdnaaRoCk
import Derived.Test.YtnpffhgmakbdnaaRoVd
import Derived.JoinedCond
namespace Go.Proofs.Ytnpffhgmakbdnaa
open Go.ChangeMaps Go.ChangeShapes Go.WideShapes Go.ChangeAt Go.RowKit
theorem list5 {α : Type} (l : List α) (h : l.length = 5) : ∃ a b c d e, l = [a, b, c, d, e] := by
  match l, h with
  | [a, b, c, d, e], _ => exact ⟨a, b, c, d, e, rfl⟩
structure SentAt (w : World) (a : Addr) (i : Nat) (x : SentR) : Prop where
  c : ∀ k, k < 5 → w.cell? (a.add (i * 5 + k)) = (seC x)[k]?
  ok : In64 x.who ∧ In64 x.n
theorem sent_at {H : Type} {enc : TypeId × Value → H} {w : World} {base : Nat} {sp : Nat → Bool} {held : Bool} {n : Nat} {a : Addr} {i : Nat} {cs : List Value} {x : DataW H × List MemPlace}
    (h1 : w.cells? base (a.add (i * 5)) 5 = some cs) (h2 : DataW.trod enc Try.prog w base sp held n 61 cs = some x) : ∃ y, SentAt w a i y := by
  obtain ⟨_, hlen, hcell⟩ := World.cells?_some h1
  obtain ⟨xs, k, _, _, _, hxl, hf⟩ := DataW.trod_struct Try.underlying61 h2
  obtain ⟨y0, y1, y2, y3, y4, rfl⟩ := list5 xs hxl
  obtain ⟨v0, v1, v2, v3, v4, rfl⟩ := list5 cs hlen
  have g0 : DataW.trod enc Try.prog w base sp held k 3 (([v0, v1, v2, v3, v4].drop 0).take (Try.prog.cellsOf 3)) = some y0 := hf 0 _ rfl
  have g1 : DataW.trod enc Try.prog w base sp held k 3 (([v0, v1, v2, v3, v4].drop 1).take (Try.prog.cellsOf 3)) = some y1 := hf 1 _ rfl
  have g2 : DataW.trod enc Try.prog w base sp held k 4 (([v0, v1, v2, v3, v4].drop 2).take (Try.prog.cellsOf 4)) = some y2 := hf 2 _ rfl
  have g3 : DataW.trod enc Try.prog w base sp held k 4 (([v0, v1, v2, v3, v4].drop 3).take (Try.prog.cellsOf 4)) = some y3 := hf 3 _ rfl
  have g4 : DataW.trod enc Try.prog w base sp held k 4 (([v0, v1, v2, v3, v4].drop 4).take (Try.prog.cellsOf 4)) = some y4 := hf 4 _ rfl
  rw [cells3] at g0 g1
  rw [cells4] at g2 g3 g4
  obtain ⟨z0, q0, _, w0⟩ := DataW.trod_int Try.underlying3 (x := y0) g0
  obtain ⟨z1, q1, _, w1⟩ := DataW.trod_int Try.underlying3 (x := y1) g1
  obtain ⟨z2, q2, _⟩ := DataW.trod_bool Try.underlying4 (x := y2) g2
  obtain ⟨z3, q3, _⟩ := DataW.trod_bool Try.underlying4 (x := y3) g3
  obtain ⟨z4, q4, _⟩ := DataW.trod_bool Try.underlying4 (x := y4) g4
  simp at q0 q1 q2 q3 q4
  subst q0 q1 q2 q3 q4
  refine ⟨⟨z0, z1, z2, z3, z4⟩, fun k hk => ?_, ⟨wf_i64 w0, wf_i64 w1⟩⟩
  have e := hcell k hk
  rw [Go.Deep.add_add] at e
  rw [e]
  match k, hk with
  | 0, _ => rfl
  | 1, _ => rfl
  | 2, _ => rfl
  | 3, _ => rfl
  | 4, _ => rfl
set_option maxRecDepth 100000 in
theorem open_sents {H : Type} {enc : TypeId × Value → H} {W : World} {base : Nat} {v : Value} {d : DataW H} {ps : List MemPlace} (h : DataW.Trod enc Try.prog W 0 (fun _ => true) true 55 v d ps) (hv : Value.okWide Try.prog W .any base 55 v) :
    ∃ (oa : Option Addr) (b off len cap : Nat) (S : Nat → SentR), v = .slice oa len cap ∧ (0 < len → oa = some ⟨b, off, none⟩) ∧ SentsAt W b off len S ∧ (0 < len → ∃ elems spare, d = .slice elems spare ∧ elems.length = len) := by
  obtain ⟨fuel, hf⟩ := h
  have hc : Try.prog.cellsOf 61 = 5 := by kernel_rfl
  rcases Go.Deep.open_slice Try.underlying55 hf with ⟨h0, _⟩ | ⟨a, len, cap, m, n, D, Pl, h0, _, hl, hm, hmm, hx0, hx⟩
  · have hv0 : v = .slice none 0 0 := by
      obtain ⟨a', l', c', rfl⟩ := okWide_slice Try.underlying55 hv
      simpa [Value.cells] using h0
    exact ⟨none, 0, 0, 0, 0, fun _ => ⟨0, 0, false, false, false⟩, hv0, fun h => absurd h (by omega), ⟨fun i hi => absurd hi (by omega), fun i hi => absurd hi (by omega)⟩, fun h => absurd h (by omega)⟩
  · have hv0 : v = .slice (some a) len cap := by
      obtain ⟨a', l', c', rfl⟩ := okWide_slice Try.underlying55 hv
      simpa [Value.cells] using h0
    have hlm : len ≤ m := by rw [hmm]; simp; exact hl
    rw [hc] at hx
    have inst : Inhabited SentR := ⟨⟨0, 0, false, false, false⟩⟩
    obtain ⟨f, hfx⟩ := Go.Deep.choose_lt (α := SentR) (p := fun i y => SentAt W a i y) (n := len) (fun i hi => by
      obtain ⟨cs', h1, h2⟩ := hx i (by omega)
      exact sent_at h1 h2)
    obtain ⟨b, off, spot⟩ := a
    have hspot : 0 < len → spot = none := fun hp => by
      have h9 : W.cell? (Addr.add ⟨b, off, spot⟩ (0 * 5 + 0)) = some (.int .i64 (f 0).who) := (hfx 0 hp).c 0 (by omega)
      simpa [Addr.add] using World.cell?_spot h9
    refine ⟨some ⟨b, off, spot⟩, b, off, len, cap, f, hv0, ?_, ⟨fun i hi k hk => ?_, fun i hi => (hfx i hi).ok⟩, fun _ => ?_⟩
    · intro hp
      rw [hspot hp]
    · have hs := hspot (by omega)
      subst hs
      rw [Nat.add_assoc, ← Go.WideShapes.add_plain]
      exact (hfx i hi).c k hk
    · obtain ⟨e1, _⟩ := Prod.mk.inj hx0
      exact ⟨_, _, e1, by simp⟩
theorem bulk_one {H : Type} (d : DataW H) : 1 ≤ Rows.uptoBulk d := by
  cases d with
  | lit l => cases l <;> simp [Rows.uptoBulk]
  | nil => simp [Rows.uptoBulk]
  | ptr d => simp [Rows.uptoBulk]
  | slice elems spare => simp [Rows.uptoBulk]
  | agg parts => simp [Rows.uptoBulk]
  | iface t d => simp [Rows.uptoBulk]
  | map entries => simp [Rows.uptoBulk]
  | held h => simp [Rows.uptoBulk]
theorem bulk_len {H : Type} (l : List (DataW H)) : l.length ≤ Rows.uptoBulkAll l := by
  induction l with
  | nil => simp [Rows.uptoBulkAll]
  | cons x r ih => have := bulk_one x; simp only [Rows.uptoBulkAll, List.length_cons]; omega
set_option maxRecDepth 100000 in
theorem rooms_contract (H : Type) (enc : TypeId × Value → H) (W : World) (base : Nat) (args : Array Value) (ds gs : List (DataW H)) (before : List MemPlace)
    (hval0 : ∀ (j : Nat) t v, Try.f5.params[j]? = some t → args[j]? = some v → Value.okWide Try.prog W .any base t v)
    (hW : DataW.Whole enc Try.prog Try.f5.params.toList Rows.cacheRoomsSpec.vars false W args.toList ds gs before) (hk : Rows.uptoSmall H (ds ++ gs) = true) :
    Calls Try.prog 5 args W fun e W' => ∃ v, e = .returned v ∧ Rows.cacheRoomsSpec.post enc Try.prog Try.f5 false true false false W args v W' := by
  have hval : ∀ (j : Nat) t v, Try.f5.params[j]? = some t → args[j]? = some v → Value.okWide Try.prog W .any base t v := hval0
  have hW' := hW
  obtain ⟨p, q, hA0, hV, rfl, _, _⟩ := hW
  have hA : DataW.TrodAll enc Try.prog W 0 (fun _ => true) true Try.f5.params.toList args.toList ds p := hA0
  have hlt := hA.lt
  rw [Try.params5] at hA hval
  obtain ⟨v0, vm, v1, d0, dm, d1, p0, pm, p1, rfl, rfl, rfl, h0, hm, h1⟩ := trodAll_three hA
  obtain ⟨rfl, rfl⟩ := trodVars_none hV
  have k0 := h0
  have km := hm
  obtain ⟨ci, rfl, _, _, wc⟩ := open_int Try.underlying3 (hval 0 3 v0 rfl rfl) h0
  obtain ⟨ei, rfl, _, _, we⟩ := open_int Try.underlying3 (hval 1 3 vm rfl rfl) hm
  obtain ⟨oa, b, off, len, cap, S, rfl, hoa, hops, hd⟩ := open_sents h1 (hval 2 55 v1 rfl rfl)
  have hlen : len ≤ 1048576 := by
    rcases Nat.eq_zero_or_pos len with e | e
    · rw [e]; omega
    · obtain ⟨elems, spare, e1, e2⟩ := hd e
      have hb : Rows.uptoBulkAll ([d0, dm, d1] ++ []) ≤ 1048576 := of_decide_eq_true hk
      rw [e1] at hb
      simp only [List.append_nil, Rows.uptoBulkAll, Rows.uptoBulk] at hb
      have := bulk_len elems
      omega
  clear hA0 hval0
  have key : Calls Try.prog 5 #[.int .i64 ci, .int .i64 ei, .slice oa len cap] W fun e w' => e = .returned (.bool true) ∧ Below W.heap.size W w' := rooms_any ci ei (wf_i64 wc) (wf_i64 we) oa b off len cap S W hoa hops hlen
  refine key.mono fun e W' ⟨he, hg⟩ => ?_
  subst he
  have hs0 := Below.trod (by kernel_rfl) (by kernel_rfl) (of_decide_eq_true (by kernel_rfl)) k0 hg (fun x hx => hlt x (by simp [hx]))
  have hsm := Below.trod (by kernel_rfl) (by kernel_rfl) (of_decide_eq_true (by kernel_rfl)) km hg (fun x hx => hlt x (by simp [hx]))
  have hs1 := Below.trod (by kernel_rfl) (by kernel_rfl) (of_decide_eq_true (by kernel_rfl)) h1 hg (fun x hx => hlt x (by simp [hx]))
  exact ⟨_, rfl, _, _, _, [], _, [], hW', trodAll_mk1 (shut_bool Try.underlying4 _), trodAll_mk3 hs0 hsm hs1, rfl, hg.frame _, fun h => by cases h⟩
set_option maxRecDepth 100000 in
theorem cacheRooms_lifted (os : Os) (started : os.Started) (H : Type) (enc : TypeId × Value → H) (F : Stop.Interp) :
    ReturnsInHanded {} Try.checked os 5 .any ((Rows.OpenSpec.upto Rows.cacheRoomsSpec).pre6 enc Try.prog Try.f5 Rows.cacheRoomsUptoRow.domain false) (((Rows.OpenSpec.upto Rows.cacheRoomsSpec).at F).post enc Try.prog Try.f5 false true false false) := by
  refine returnsInHanded_of_cond (C := Try.checked) (s := Rows.OpenSpec.upto Rows.cacheRoomsSpec) (k := Rows.uptoSmall) rfl own started (by kernel_rfl) Try.func5
    (OpenSpec.witness (enc := enc) (C := Try.checked) (s := Rows.OpenSpec.upto Rows.cacheRoomsSpec) (k := Rows.uptoSmall) rfl false ⟨#[], #[.int .i64 0, .int .i64 0, .slice none 0 0], []⟩ 8 (by kernel_rfl) (by kernel_rfl) (by kernel_rfl)
      (x := ([.lit (.int .i64 0), .lit (.int .i64 0), .nil], [], [])) (by kernel_rfl) rfl (by kernel_rfl)) ?_
  intro W base args ds gs before hval hW _ hk _
  exact rooms_contract H enc W base args ds gs before hval hW hk
theorem cacheRooms_upto : Rows.CacheRoomsUptoSaid :=
  OpenClaim.holds_of_cond 5 Try.f5 rfl rfl rfl rfl rfl rfl rfl ⟨rfl, rfl, rfl, rfl, rfl⟩ rfl rfl rfl rfl rfl (by kernel_rfl) Try.func5 (by kernel_rfl)
    (of_decide_eq_true (by kernel_rfl)) (by unfold Func.isWrapper; first | (rw [if_pos (by decide +kernel)]; kernel_rfl) | (rw [if_neg (by decide +kernel)]; exact ⟨rfl, rfl⟩))
    (fun os started H enc _ F => cacheRooms_lifted os started H enc F)
#print axioms cacheRooms_upto
end Go.Proofs.Ytnpffhgmakbdnaa
