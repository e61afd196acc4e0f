/- A client in memory: begin, raise. -/
import Derived.Test.YtnpffhgmakbdnaaRoMd
import Derived.Deep.RegionHeld3
namespace Go.Proofs.Ytnpffhgmakbdnaa
open Go.RowKit
/-- a client in memory -/
structure CL (w : World) (g : Cf) (c : Cl) : Prop where
  blk : w.heap[c.b]? = some (clO g c)
  mp : MM kdE w c.m c.ents
section
variable {w w' : World} {p mm : Nat} {g : Cf} {c : Cl}
theorem CL.ne (h : CL w g c) : c.b ≠ c.m := fun e => by
  obtain ⟨es, k, h1, _⟩ := h.mp
  have h2 := h.blk
  rw [e, h1] at h2
  cases h2
theorem CL.lt (h : CL w g c) : c.b < w.heap.size ∧ c.m < w.heap.size := ⟨(Array.getElem?_eq_some_iff.1 h.blk).1, h.mp.lt⟩
theorem CL.below (h : CL w g c) (hB : Below w.heap.size w w') : CL w' g c := ⟨(hB.block _ h.lt.1).trans h.blk, h.mp.kept (hB.block _ h.lt.2)⟩
theorem CL.pb (h : CL w g c) (hp : w.heap[p]? = some (meO g mm)) : p ≠ c.b ∧ p ≠ c.m := by
  refine ⟨fun e => ?_, fun e => ?_⟩
  · have h2 := h.blk
    rw [← e, hp] at h2
    injection h2 with h2
    injection h2 with h3 h4
    exact absurd h4 (by decide)
  · obtain ⟨es, k, h1, _⟩ := h.mp
    rw [← e, hp] at h1
    cases h1
theorem Only.chg {m : Nat} {F : List Nat} (h : Only m w w') (hm : m ∈ F) : Chg F F w w' := ⟨h.os, h.tape, h.output, by rw [h.size]; exact Nat.le_refl _, fun x _ hx => h.kept x (fun e => hx (by rw [e]; exact hm)), fun _ h => .inl h⟩
theorem Chg.set {F : List Nat} (w : World) (a : Addr) (v : Value) (h : a.block ∈ F) : Chg F F w (w.setCell a v) := ⟨rfl, rfl, rfl, by simp, fun x _ hx => Below.heap_setCell _ _ _ _ (fun e => hx (by rw [e]; exact h)), fun _ h => .inl h⟩
theorem set1 {w : World} {c : Cl} (h : w.heap[c.b]? = some (clO g c)) (n : Int) : (w.setCell ⟨c.b, 1, none⟩ (.int .i64 n)).heap[c.b]? = some (.cells #[.int .i64 c.water, .int .i64 n, .map (some c.m)] 76 (0, 0)) := by unfold World.setCell; simp [Array.getElem?_modify, h]
theorem set0 {w : World} {c : Cl} (h : w.heap[c.b]? = some (clO g c)) (n : Int) : (w.setCell ⟨c.b, 0, none⟩ (.int .i64 n)).heap[c.b]? = some (.cells #[.int .i64 n, .int .i64 (byt g.rs c.ents), .map (some c.m)] 76 (0, 0)) := by unfold World.setCell; simp [Array.getElem?_modify, h]
theorem sz_le {g : Cf} {wt : Int} {e : En} (h : EnOk g wt e) : sz g.rs e ≤ g.rs := by
  unfold sz
  split
  · exact h.rep
  · exact Nat.le_refl _
theorem byt_le {rs : Nat} : ∀ {l : List En}, (∀ e ∈ l, sz rs e ≤ rs) → byt rs l ≤ l.length * rs
  | [], _ => by simp [byt]
  | e :: l, h => by
    have h1 := h e (by simp)
    have h2 := byt_le (l := l) fun x hx => h x (by simp [hx])
    simp only [byt, List.map_cons, List.sum_cons, List.length_cons] at h2 ⊢
    rw [Nat.succ_mul]
    omega
theorem ClOk.byt_le (h : ClOk g c) (k : CfOk g) : byt g.rs c.ents ≤ 70400 := by
  have h1 := Go.Proofs.Ytnpffhgmakbdnaa.byt_le (rs := g.rs) (l := c.ents) fun e he => sz_le (h.en e he)
  have h2 := h.len
  have h3 := k.e
  have h4 := k.r
  have h5 : c.ents.length * g.rs ≤ 64 * 1100 := Nat.mul_le_mul (by omega) (by omega)
  omega
theorem byt_app (rs : Nat) (l l2 : List En) : byt rs (l ++ l2) = byt rs l + byt rs l2 := by simp [byt]
theorem begin_any (hp : w.heap[p]? = some (meO g mm)) (hg : CfOk g) (h : CL w g c) (hc : ClOk g c) (seq : Int) (hs : 1 ≤ seq ∧ seq ≤ 4294967295) (hn : ∀ e ∈ c.ents, e.seq ≠ seq) :
    Calls Try.prog 44 #[ptr p, ptr c.b, .int .i64 seq] w fun e w' => e = .returned (.tuple #[]) ∧ CL w' g { c with ents := c.ents ++ [⟨seq, false, ⟨#[]⟩⟩] } ∧ Chg [c.b, c.m] [c.b, c.m] w w' := by
  have hne := h.ne
  have hpb := h.pb hp
  obtain ⟨w1, hr, h1, o1⟩ := h.mp.store (okE hc) (x := ⟨seq, false, ⟨#[]⟩⟩) (key3 seq (wf_of (by omega))) (fun y hy e => hn y hy (by simpa [kdE] using e))
  have hr' : (Instr.mapUpdate 74 (.map (some c.m)) (.int .i64 seq) (.agg #[.bool false, .string ⟨#[]⟩])).run Try.prog w = .ok () w1 := hr
  have hb1 : w1.heap[c.b]? = some (clO g c) := (o1.kept _ hne).trans h.blk
  have hp1 : w1.heap[p]? = some (meO g mm) := (o1.kept _ hpb.2).trans hp
  have x2 := cl2 h.blk
  have y1 := cl1 hb1
  have yf := clf hb1 1
  have z3 : w1.cell? ⟨p, 3, none⟩ = some (.int .i64 g.rs) := by unfold World.cell?; rw [hp1]; rfl
  have hle := hc.byt_le hg
  have hrs := hg.r
  have hadd : wrap64 ((byt g.rs c.ents : Int) + (g.rs : Int)) = (byt g.rs c.ents : Int) + (g.rs : Int) := by unfold wrap64; omega
  have HR : Hid (∀ n : Int, n = (byt g.rs c.ents : Int) + (g.rs : Int) → CL (w1.drew.setCell ⟨c.b, 1, none⟩ (.int .i64 n)) g { c with ents := c.ents ++ [⟨seq, false, ⟨#[]⟩⟩] } ∧ Chg [c.b, c.m] [c.b, c.m] w (w1.drew.setCell ⟨c.b, 1, none⟩ (.int .i64 n))) := by
    intro n hn2
    refine ⟨⟨?_, h1.kept (Below.heap_setCell _ _ _ _ (fun e => hne e.symm))⟩, (o1.chg (by simp)).trans ((Chg.drew _ _).trans (Chg.set _ _ _ (by simp)))⟩
    rw [show (w1.drew.setCell ⟨c.b, 1, none⟩ (.int .i64 n)).heap[c.b]? = _ from set1 (w := w1.drew) hb1 n, hn2]
    simp [clO, byt_app]
    simp [byt, sz]
  generalize (byt g.rs c.ents : Int) = bn at *
  clear hp h hc hn hg hne hpb hr h1 o1 hb1 hp1 hle hrs
  generalize c.b = cb at *
  generalize c.m = cm at *
  go_enter Try.func44, Try.ntmps44
  go_wp2
  go_region
  all_goals (
    go_wp2
    go_end0
    exact ⟨rfl, HR.out _ rfl⟩)
end
end Go.Proofs.Ytnpffhgmakbdnaa
