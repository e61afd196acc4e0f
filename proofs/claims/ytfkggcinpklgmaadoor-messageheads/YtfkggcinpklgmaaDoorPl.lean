/- told: whatever the reply. -/
import Derived.Test.YtfkggcinpklgmaaDoorPg
import Derived.Test.YtfkggcinpklgmaaDoorPh
import Derived.Test.YtfkggcinpklgmaaDoorPi
import Derived.Test.YtfkggcinpklgmaaDoorPj
import Derived.Test.YtfkggcinpklgmaaDoorPk
namespace Go.Proofs.YtfkggcinpklgmaaDoor
open Go.RowKit
theorem told_any (r : ReplyP) (w : World) (h : Reply64 r) :
    Calls Tryd.prog 7 #[.agg (replyV r).toArray] w fun e w' => e = .returned (.agg (replyV (tolP r)).toArray) ∧ Below w.heap.size w w' := by
  obtain ⟨rx, rd, ⟨vf, vb⟩, ra, rl, rh, rr, rj, rw_⟩ := r
  cases rd
  · by_cases h0 : pickP ra 6 = 0
    · exact told_acc0 rx ra rl rh rj rw_ vf vb rr w h h0
    · by_cases h2 : pickP ra 6 = 2
      · exact told_acc2 rx ra rl rh rj rw_ vf vb rr w h h2
      · exact told_accn rx ra rl rh rj rw_ vf vb rr w h ⟨h0, h2⟩
  · have := pick_range rj 2 (by decide)
    by_cases h1 : pickP rj 2 = 1
    · exact told_den1 rx ra rl rh rj rw_ vf vb rr w h h1
    · exact told_den0 rx ra rl rh rj rw_ vf vb rr w h (by omega)
end Go.Proofs.YtfkggcinpklgmaaDoor
