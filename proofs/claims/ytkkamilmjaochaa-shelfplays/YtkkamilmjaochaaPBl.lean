/- ShelfPlays: a keep that calls the shelf: plainly; a side in memory. -/
import Derived.Test.YtkkamilmjaochaaPBk
namespace Go.Proofs.Ytkkamilmjaochaa
open Go.RowKit
structure As where
  k : KeyP
  v : Int
  len : Int
  there : Int
def asC (a : As) : List Value := [.string a.k.s, .int .i64 a.k.n, .int .i64 a.v, .int .i64 a.len, .int .i64 a.there]
theorem asL (a : As) : (asC a).length = 5 := rfl
theorem asO (a : As) : ∀ u ∈ asC a, u.oneCell' = true := by
  intro u hu
  simp only [asC, List.mem_cons, List.not_mem_nil, or_false] at hu
  rcases hu with rfl | rfl | rfl | rfl | rfl <;> rfl
theorem info165 : ∃ i : TypeInfo, Try.prog.info? 165 = some i ∧ i.zero = some (.agg #[.string ⟨#[]⟩, .int .i64 0, .int .i64 0, .int .i64 0, .int .i64 0]) ∧ i.size = 5 ∧ i.bytes = 48 :=
  ⟨(Try.prog.info? 165).getD default, by kernel_rfl, by kernel_rfl, by kernel_rfl, by kernel_rfl⟩
theorem bld165 (w : World) (s : ByteArray) (n v l : Int) : (Instr.build 165 #[(0, .agg #[.string s, .int .i64 n]), (1, .int .i64 v), (2, .int .i64 l)]).run Try.prog w = .ok (.agg #[.string s, .int .i64 n, .int .i64 v, .int .i64 l, .int .i64 0]) w := by kernel_rfl
theorem bls37 (w : World) (s : ByteArray) (n v l a : Int) : (Instr.buildSlice 37 1 #[(0, .agg #[.string s, .int .i64 n, .int .i64 v, .int .i64 l, .int .i64 a])]).run Try.prog w = .ok (.slice (some ⟨w.heap.size, 0, none⟩) 1 1) (w.alloc (.cells #[.string s, .int .i64 n, .int .i64 v, .int .i64 l, .int .i64 a] 165)) := by kernel_rfl
/-- one call of the script -/
structure OpP where
  kd : Int
  on : Int
  k : KeyP
  v : Int
  n : Int
  m : Int
def opC (o : OpP) : List Value := [.int .i64 o.kd, .int .i64 o.on, .string o.k.s, .int .i64 o.k.n, .int .i64 o.v, .int .i64 o.n, .int .i64 o.m]
abbrev opV (o : OpP) : Value := .agg #[.int .i64 o.kd, .int .i64 o.on, .string o.k.s, .int .i64 o.k.n, .int .i64 o.v, .int .i64 o.n, .int .i64 o.m]
abbrev opB (o : OpP) : Obj := .cells #[.int .i64 o.kd, .int .i64 o.on, .string o.k.s, .int .i64 o.k.n, .int .i64 o.v, .int .i64 o.n, .int .i64 o.m] 46
/-- whom a keep within a keep does not want -/
def goneW (L : List Pr) : List KeyP := (L.filter fun y => !wantP y.k y.v).map Pr.k
def keyW (m : Int) (c : Nat) : KeyP := busyK m ((c : Int) + 1)
def actL (most : Nat) (m : Int) (c : Nat) (v : Int) (L : List Pr) : List Pr :=
  if pickP m 6 = 1 then putL most L (keyW m c) (wrap64 (-v)) else if pickP m 6 = 2 then dropL L (keyW m c) else if pickP m 6 = 3 then takesL L (goneW L) else L
def asOf (m : Int) (c : Nat) (k : KeyP) (v : Int) (L : List Pr) : As := ⟨k, v, L.length, getL L (keyW m c)⟩
def ansP (n v : Int) (c : Nat) : Bool := decide (0 < pickP (wrap64 (wrap64 (n + v) + ((c : Int) + 1))) 3)
theorem take_goneJ (ks : List KeyP) (ans : Nat → Bool) (L : List (Th KeyP Int)) (hks : ks = L.map Th.k) (h : ∀ j t, L[j]? = some t → ans j = wantP t.k t.v) : ∀ j, j ≤ L.length → goneJ ans ks j = goneW (prs (L.take j))
  | 0, _ => rfl
  | j + 1, hj => by
    have hj2 : j < L.length := hj
    obtain ⟨t, ht⟩ : ∃ t, L[j]? = some t := ⟨_, List.getElem?_eq_getElem hj2⟩
    have h1 := take_goneJ ks ans L hks h j (by omega)
    have h2 : L.take (j + 1) = L.take j ++ [t] := by rw [List.take_add_one, ht]; rfl
    show goneJ ans ks j ++ (if ans j then [] else (ks[j]?).toList) = _
    rw [h1, h2, h j t ht, hks, List.getElem?_map, ht]
    unfold goneW prs
    rw [List.map_append, List.filter_append, List.map_append]
    congr 1
    cases hw : wantP t.k t.v <;> simp [hw]
def ansW (L : List (Th KeyP Int)) (j : Nat) : Bool := match L[j]? with | some t => wantP t.k t.v | none => false
/-- Prune of what a keep within a keep wants -/
theorem pruneW {w : World} {K : Nat → Nat} {p most m r ts τ σ : Nat} {L : List (Th KeyP Int)} (h : TS kdK K w ts p most m r L) (hστ : σ ≠ τ) (hσs : σ ≠ ts) (hτs : τ ≠ ts) (hV : ∀ y ∈ prs L, I64 y.v) :
    Calls Try.prog 60 #[ptr p, .func (.func 69) #[] #[]] w fun e w' => ∃ v, e = .returned v ∧ ∃ K' L', TS kdK K' w' ts p most m r L' ∧ prs L' = takesL (prs L) (goneW (prs L)) ∧ Mv (fun y => (y = τ ∨ y = σ) ∨ y = ts) w w' K K' := by
  have hans : ∀ (j : Nat) (t : Th KeyP Int), L[j]? = some t → ansW L j = wantP t.k t.v := fun j t ht => by unfold ansW; rw [ht]
  refine (prnW_any h hστ hσs (fun _ => False) id id (fun _ K w => TS kdK K w ts p most m r L) (fun j K K' a b i mv => i.mv mv (by omega)) h (ansW L) ?_ (prs L) (fun K w i => ⟨L, rfl, i⟩)).mono ?_
  · intro j t K wk ht hi
    refine (wanted_any wk t.k t.v (hV ⟨t.k, t.v⟩ (List.mem_map.2 ⟨t, List.mem_of_getElem? ht, rfl⟩))).mono ?_
    rintro _ w' ⟨rfl, hb⟩
    exact ⟨by rw [hans j t ht], _, hi.mv (Mv.of_below hb K (fun _ => 0)) id, Mv.of_below hb K (fun _ => 0)⟩
  · rintro e w' ⟨rfl, K1, w1, K', L', i1, m1, t1, e1, m2⟩
    refine ⟨_, rfl, K', L', t1, ?_, (m1.mono (fun _ h => .inl (h.elim id (fun q => q.elim)))).trans (m2.mono (fun _ h => .inr h))⟩
    rw [e1, take_goneJ _ _ L rfl hans L.length (Nat.le_refl _), List.take_of_length_le (Nat.le_refl _)]
/-- a side in memory: the shelf (tag β + 3), the document's (β + 4, β + 5), what a keep was asked (β + 1), and what the document's (β + 2) -/
structure SD (K : Nat → Nat) (w : World) (B β y p m r x most : Nat) (L D : List Pr) (A W : List As) (va vw : Value) : Prop where
  me : TB K w β y (.cells #[ptr p, ptr x, va, vw] 39)
  ask : RW 165 5 asC K w B (β + 1) va A
  was : RW 165 5 asC K w B (β + 2) vw W
  sh : ∃ Lt, prs Lt = L ∧ TS kdK K w (β + 3) p most m r Lt
  ds : ∃ vd, DS K w B (β + 4) x most vd D
theorem SD.mv {T : Nat → Prop} {K K' : Nat → Nat} {w w' : World} {B β y p m r x most : Nat} {L D : List Pr} {A W : List As} {va vw : Value} (h : SD K w B β y p m r x most L D A W va vw) (mv : Mv T w w' K K') (h0 : ¬ T β) (h1 : ¬ T (β + 1)) (h2 : ¬ T (β + 2)) (h3 : ¬ T (β + 3)) (h4 : ¬ T (β + 4)) (h5 : ¬ T (β + 5)) : SD K' w' B β y p m r x most L D A W va vw :=
  ⟨h.me.mv mv h0, h.ask.mv mv h1, h.was.mv mv h2, h.sh.elim fun Lt q => ⟨Lt, q.1, q.2.mv mv h3⟩, h.ds.elim fun vd q => ⟨vd, q.mv mv h4 h5⟩⟩
end Go.Proofs.Ytkkamilmjaochaa
