/- ShelfPlays: the keep that Prune is given; plainly: what stays so. -/
import Derived.Test.YtkkamilmjaochaaPBo
namespace Go.Proofs.Ytkkamilmjaochaa
open Go.RowKit
theorem nd_act {L : List Pr} (h : ND L) (most : Nat) (m : Int) (c : Nat) (v : Int) : ND (actL most m c v L) := by
  unfold actL
  split
  · exact nd_put h _ _ _
  · split
    · exact nd_drop h _
    · split
      · exact nd_takes _ _ h
      · exact h
theorem act_len {L : List Pr} {most : Nat} (h : L.length ≤ most) (m : Int) (c : Nat) (v : Int) : (actL most m c v L).length ≤ most := by
  unfold actL
  split
  · exact put_len h _ _
  · split
    · exact Nat.le_trans (drop_len _ _) h
    · split
      · exact Nat.le_trans (takes_len _ _) h
      · exact h
def VOk (L : List Pr) : Prop := ∀ z ∈ L, I64 z.v
theorem v_drop {L : List Pr} (h : VOk L) (k : KeyP) : VOk (dropL L k) := fun z hz => h z (List.mem_filter.1 hz).1
theorem v_takes : ∀ (ks : List KeyP) (L : List Pr), VOk L → VOk (takesL L ks)
  | [], _, h => h
  | a :: ks, L, h => v_takes ks (dropL L a) (v_drop h a)
theorem v_put {L : List Pr} (h : VOk L) (most : Nat) (k : KeyP) (v : Int) (hv : I64 v) : VOk (putL most L k v) := by
  unfold putL
  split
  · intro z hz
    obtain ⟨y, hy, rfl⟩ := List.mem_map.1 hz
    split
    · exact hv
    · exact h y hy
  · split
    · intro z hz
      rcases List.mem_append.1 hz with h1 | h1
      · exact h z h1
      · simp at h1; subst h1; exact hv
    · exact h
theorem v_act {L : List Pr} (h : VOk L) (most : Nat) (m : Int) (c : Nat) (v : Int) : VOk (actL most m c v L) := by
  unfold actL
  split
  · exact v_put h _ _ _ (wrap64_in _)
  · split
    · exact v_drop h _
    · split
      · exact v_takes _ _ h
      · exact h
set_option maxRecDepth 8000 in
theorem keepK_any {K : Nat → Nat} {w : World} {B β y p m r x most a b : Nat} {L D : List Pr} {A W : List As} {va vw : Value} (h : SD K w B β y p m r x most L D A W va vw) (hB : B ≤ w.heap.size) (o : OpP) (ho : I64 o.m ∧ I64 o.n) (ba : TB K w (β + 14) a (.cells #[ptr y] 36)) (bb : TB K w (β + 15) b (opB o)) (k : KeyP) (v : Int) (hv : I64 v) (hV : VOk L) (hA : A.length ≤ 1048576) :
    Calls Try.prog 61 #[keyV k, .int .i64 v, ptr a, ptr b] w fun e w' => e = .returned (.bool (ansP o.n v A.length)) ∧ ∃ K' va', SD K' w' B β y p m r x most (actL most o.m A.length v L) D (A ++ [asOf o.m A.length k v L]) W va' vw ∧ Mv (TK β) w w' K K' := by
  obtain ⟨w0, hw0⟩ : ∃ w0, w.alloc (.cells #[.string k.s, .int .i64 k.n] 32) = w0 := ⟨_, rfl⟩
  obtain ⟨S0, hS0⟩ : ∃ S0, w.heap.size = S0 := ⟨_, rfl⟩
  obtain ⟨K0, hK0⟩ : ∃ K0, ext w K (fun _ => β + 13) = K0 := ⟨_, rfl⟩
  have m0 : Mv (fun _ => False) w w0 K K0 := by rw [← hw0, ← hK0]; exact Mv.alloc w K _ _
  have h0 := h.mv m0 id id id id id id
  have ba0 := ba.mv m0 id
  have bb0 := bb.mv m0 id
  have kb : w0.heap[S0]? = some (.cells #[.string k.s, .int .i64 k.n] 32) := by rw [← hw0, ← hS0]; exact (MapKept.heap_alloc w _).1
  have k0 : w0.cell? ⟨S0, 0, none⟩ = some (.string k.s) := by unfold World.cell?; rw [kb]; rfl
  have k1 : w0.cell? ⟨S0, 1, none⟩ = some (.int .i64 k.n) := by unfold World.cell?; rw [kb]; rfl
  have a0 : w0.cell? ⟨a, 0, none⟩ = some (ptr y) := by unfold World.cell?; rw [ba0.at_]; rfl
  have b0 : w0.cell? ⟨b, 0, none⟩ = some (.int .i64 o.kd) := by unfold World.cell?; rw [bb0.at_]; rfl
  have b1 : w0.cell? ⟨b, 1, none⟩ = some (.int .i64 o.on) := by unfold World.cell?; rw [bb0.at_]; rfl
  have b2 : w0.cell? ⟨b, 2, none⟩ = some (.string o.k.s) := by unfold World.cell?; rw [bb0.at_]; rfl
  have b3 : w0.cell? ⟨b, 3, none⟩ = some (.int .i64 o.k.n) := by unfold World.cell?; rw [bb0.at_]; rfl
  have b4 : w0.cell? ⟨b, 4, none⟩ = some (.int .i64 o.v) := by unfold World.cell?; rw [bb0.at_]; rfl
  have b5 : w0.cell? ⟨b, 5, none⟩ = some (.int .i64 o.n) := by unfold World.cell?; rw [bb0.at_]; rfl
  have b6 : w0.cell? ⟨b, 6, none⟩ = some (.int .i64 o.m) := by unfold World.cell?; rw [bb0.at_]; rfl
  have HC := hid (keeps_any h0 (Nat.le_trans hB m0.size) o ho k v hv hV hA)
  have HM := hid m0
  clear h hB ho ba bb hv hV hA h0 ba0 bb0 kb m0 hK0
  generalize ansP o.n v A.length = an at *
  go_enter Try.func61, Try.ntmps61
  go_wp2_with fail
  refine HC.out.mono ?_
  rintro _ w' ⟨rfl, K', va', hs, mv⟩
  have HE : Hid (∃ K' va', SD K' w' B β y p m r x most (actL most o.m A.length v L) D (A ++ [asOf o.m A.length k v L]) W va' vw ∧ Mv (TK β) w w' K K') := ⟨K', va', hs, (HM.out.mono (fun _ h => h.elim)).trans mv⟩
  clear hs mv
  go_wp2
  go_ret
  exact ⟨rfl, HE.out⟩
end Go.Proofs.Ytkkamilmjaochaa
