/- The evaluator of closed runs: EvF4 -/
import Derived.Test.YtedbjceeakmjgaaGreatDoorEvF3
namespace Go.Proofs.YtedbjceeakmjgaaGreatDoor.Ev
set_option linter.unusedSimpArgs false

section
variable {P : Program}

theorem f_holds {f : Ren} {w : World} {v v' : Value} {ok : Bool} {fr : FR} (hv : VR f v v') (he : holdsA ok v = some fr) :
    FOK P f w (.ok (if ok then .tuple #[v', .bool true] else v') w) fr := by
  unfold holdsA at he
  split at he
  · cases he; exact ⟨_, .tuple' (.cons hv (.single (.bool true))), rfl⟩
  · cases he; exact ⟨v', hv, rfl⟩

theorem fails_eq {f : Ren} {t : TypeId} {ok : Bool} {fr : FR} (he : failsA P ok t = some fr) : ok = true ∧ ∃ z, zeroP P t = some z ∧ VR f z z ∧ fr = .val (.tuple #[z, .bool false]) := by
  unfold failsA at he
  split at he
  · split at he
    · rename_i z hz
      split at he
      · rename_i hg; cases he; exact ⟨rfl, z, hz, vr_ground 3 z hg, rfl⟩
      · cases he
    · cases he
  · cases he

theorem f_typeAssert {f : Ren} {w : World} {x x' : Value} {xt t : TypeId} {ok : Bool} {fr : FR} (hx : VR f x x') (he : fTypeAssert P x t ok = some fr) :
    FOK P f w ((Instr.typeAssert x' xt t ok).run P w) fr := by
  unfold fTypeAssert at he
  split at he
  · rename_i want hu
    unfold fAssertI at he
    split at he
    · rename_i d v
      cases hx with
      | @iface _ _ v' hv =>
      split at he
      · rename_i i hi
        split at he
        · rename_i hm
          have := f_holds (P := P) (w := w) (VR.iface d hv) he
          cases ok <;> simpa [Instr.typeAssert, run_underlying hu, run_typeInfo w hi, hm] using this
        · rename_i m hm
          obtain ⟨rfl, z, hz, hzz, rfl⟩ := fails_eq (f := f) he
          exact ⟨_, .tuple' (.cons hzz (.single (.bool false))), by simp [Instr.typeAssert, run_underlying hu, run_typeInfo w hi, hm, run_zv hz]⟩
      · cases he
    · cases hx
      obtain ⟨rfl, z, hz, hzz, rfl⟩ := fails_eq (f := f) he
      exact ⟨_, .tuple' (.cons hzz (.single (.bool false))), by simp [Instr.typeAssert, run_underlying hu, run_zv hz]⟩
    · cases he
  · rename_i d hn hu
    unfold fAssertT at he
    split at he
    · rename_i u v
      cases hx with
      | @iface _ _ v' hv =>
      split at he
      · rename_i hb
        have hut : u = t := Nat.eq_of_beq_eq_true hb
        subst hut
        have := f_holds (P := P) (w := w) hv he
        cases d <;> first
          | exact (hn _ rfl).elim
          | (cases ok <;> simpa [Instr.typeAssert, run_underlying hu] using this)
      · rename_i hb
        have hut : u ≠ t := fun e => by simp [e] at hb
        obtain ⟨rfl, z, hz, hzz, rfl⟩ := fails_eq (f := f) he
        refine ⟨_, .tuple' (.cons hzz (.single (.bool false))), ?_⟩
        cases d <;> first
          | exact (hn _ rfl).elim
          | simp [Instr.typeAssert, run_underlying hu, run_zv hz, hut]
    · cases hx
      obtain ⟨rfl, z, hz, hzz, rfl⟩ := fails_eq (f := f) he
      refine ⟨_, .tuple' (.cons hzz (.single (.bool false))), ?_⟩
      cases d <;> first
        | exact (hn _ rfl).elim
        | simp [Instr.typeAssert, run_underlying hu, run_zv hz]
    · cases he
  · cases he

theorem pure_run {α : Type} : ∀ {s : Sem α} {a : α}, pureRun P s = some a → ∀ w, s.run P w = .ok a w
  | .pure b, a, h, w => by simp only [pureRun] at h; cases h; rfl
  | .program k, a, h, w => by simp only [pureRun] at h; exact pure_run h w
  | .load .., _, h, _ => by simp [pureRun] at h
  | .store .., _, h, _ => by simp [pureRun] at h
  | .new .., _, h, _ => by simp [pureRun] at h
  | .shape .., _, h, _ => by simp [pureRun] at h
  | .freeze .., _, h, _ => by simp [pureRun] at h
  | .frozen .., _, h, _ => by simp [pureRun] at h
  | .getObj .., _, h, _ => by simp [pureRun] at h
  | .setObj .., _, h, _ => by simp [pureRun] at h
  | .choose .., _, h, _ => by simp [pureRun] at h
  | .sys .., _, h, _ => by simp [pureRun] at h
  | .mark .., _, h, _ => by simp [pureRun] at h
  | .halt .., _, h, _ => by simp [pureRun] at h

theorem f_ansG {f : Ren} {w : World} {s : Sem Value} {fr : FR} (he : ansG (pureRun P s) = some fr) : FOK P f w (s.run P w) fr := by
  unfold ansG at he
  split at he
  · rename_i v hv
    split at he
    · rename_i hg; cases he; exact ⟨v, vr_ground 6 v hg, pure_run hv w⟩
    · cases he
  · cases he

theorem f_unOp {f : Ren} {w : World} {op : UnOp} {x x' : Value} {fr : FR} (hx : VR f x x') (he : fUnOp P op x = some fr) : FOK P f w ((Op.unary op x').run P w) fr := by
  unfold fUnOp at he
  split at he
  · rename_i hg; rw [hx.ground 2 hg]; exact f_ansG he
  · cases he

theorem f_binOther {f : Ren} {w : World} {op : BinOp} {t : TypeId} {ox oy : Operand} {x x' y y' : Value} {fr : FR} (hx : VR f x x') (hy : VR f y y')
    (he : fBinOther P op t ox oy x y = some fr) : FOK P f w ((do eqGuard op t ox oy x' y'; binOp op t x' y' : Sem Value).run P w) fr := by
  unfold fBinOther at he
  split at he
  · rename_i hg
    simp only [Bool.and_eq_true] at hg
    rw [hx.ground 6 hg.1, hy.ground 6 hg.2]
    exact f_ansG he
  · cases he

theorem binInt_run {op : BinOp} {k : IntKind} {a b : Int} {v : Value} (h : binInt op k a b = some v) (t : TypeId) (ox oy : Operand) (w : World) :
    (do eqGuard op t ox oy (.int k a) (.int k b); binOp op t (.int k a) (.int k b) : Sem Value).run P w = .ok v w := by
  cases op <;> simp [binInt, cmpInt] at h <;> subst h <;> simp [eqGuard, binOp, Op.intArith, Op.intCmp]

theorem binInt_ground {op : BinOp} {k : IntKind} {a b : Int} {v : Value} (h : binInt op k a b = some v) : ground 1 v = true := by
  cases op <;> simp [binInt, cmpInt] at h <;> subst h <;> rfl

theorem f_ansE {f : Ren} {w : World} {op : BinOp} {t : TypeId} {ox oy : Operand} {x y : Value} {fr : FR} (he : ansE op false = some fr)
    (hg : (eqGuard op t ox oy x y).run P w = .ok () w) (h : (Op.equal t x y).run P w = .ok false w)
    (h1 : binOp .eql t x y = (do pure (.bool (← Op.equal t x y)))) (h2 : binOp .neq t x y = (do pure (.bool (!(← Op.equal t x y))))) :
    FOK P f w ((do eqGuard op t ox oy x y; binOp op t x y : Sem Value).run P w) fr := by
  cases op <;> simp [ansE] at he <;> subst he
  · refine ⟨_, .bool false, ?_⟩
    simp only [Sem.run_bind, hg, Result.andThen_ok, h1, h, Sem.run_pure]
  · refine ⟨_, .bool true, ?_⟩
    simp only [Sem.run_bind, hg, Result.andThen_ok, h2, h, Sem.run_pure, Bool.not_false]

theorem equal_step (t : TypeId) (x y : Value) : Op.equal t x y = Op.equalIn (9999 + 1) t x y := rfl

theorem f_nilSome {f : Ren} {w : World} {op : BinOp} {t : TypeId} {ox oy : Operand} {x x' y y' : Value} {fr : FR} (hx : VR f x x') (hy : VR f y y')
    (hn : nilKind P t x = true) (hs : someKind P t y = true) (he : ansE op false = some fr) :
    FOK P f w ((do eqGuard op t ox oy x' y'; binOp op t x' y' : Sem Value).run P w) fr ∧ FOK P f w ((do eqGuard op t ox oy y' x'; binOp op t y' x' : Sem Value).run P w) fr := by
  have hop : op = .eql ∨ op = .neq := by cases op <;> simp [ansE] at he <;> simp
  unfold nilKind at hn
  unfold someKind at hs
  split at hn
  all_goals first
    | (rename_i hu
       simp only [hu] at hs
       split at hn
       · split at hs
         · cases hx
           cases hy
           all_goals constructor
           all_goals refine f_ansE he ?_ ?_ rfl rfl
           all_goals first
             | (rcases hop with rfl | rfl <;> simp [eqGuard])
             | (rw [equal_step]; unfold Op.equalIn; simp [run_underlying hu])
         · cases hs
       · cases hn)
    | cases hn

theorem f_binOp {f : Ren} {w : World} {op : BinOp} {t : TypeId} {ox oy : Operand} {x x' y y' : Value} {fr : FR} (hx : VR f x x') (hy : VR f y y')
    (he : fBinOp P op t ox oy x y = some fr) : FOK P f w ((do eqGuard op t ox oy x' y'; binOp op t x' y' : Sem Value).run P w) fr := by
  unfold fBinOp at he
  split at he
  · split at he
    · split at he
      · rename_i hk
        have := of_decide_eq_true hk
        subst this
        split at he
        · rename_i v hv
          cases he; cases hx; cases hy
          exact ⟨v, vr_ground 1 v (binInt_ground hv), binInt_run hv t ox oy w⟩
        · exact f_binOther hx hy he
      · exact f_binOther hx hy he
    · cases he
  · exact f_binOther hx hy he
  · exact f_binOther hx hy he
  · exact f_binOther hx hy he
  · unfold fBinPtr at he
    split at he
    · rename_i hc
      simp only [Bool.or_eq_true, Bool.and_eq_true] at hc
      rcases hc with hc | hc
      · exact (f_nilSome hx hy hc.1 hc.2 he).1
      · exact (f_nilSome hy hx hc.2 hc.1 he).2
    · exact f_binOther hx hy he

end
end Go.Proofs.YtedbjceeakmjgaaGreatDoor.Ev
