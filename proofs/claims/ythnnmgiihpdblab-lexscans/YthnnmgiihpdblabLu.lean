/- LexParts' own functions: runs. -/
import Derived.Test.YthnnmgiihpdblabLt
namespace Go.Proofs.Ythnnmgiihpdblab
open Go.RowKit

theorem index_of (w : World) (d : Nat) (h : d < 63) (i : Int) (hi : i = (d : Int)) :
    (Instr.index 9 (.string ⟨#[97, 98, 99, 100, 101, 102, 103, 104, 105, 106, 107, 108, 109, 110, 111, 112, 113, 114, 115, 116, 117, 118, 119, 120, 121, 122, 65, 66, 67, 68, 69, 70, 71, 72, 73, 74, 75, 76, 77, 78, 79, 80, 81, 82, 83, 84, 85, 86, 87, 88, 89, 90, 48, 49, 50, 51, 52, 53, 54, 55, 56, 57, 95]⟩) (.int .i64 i)).run Try.prog w = .ok (.int .u8 ((ofL.getD d 0).toNat : Int)) w := by
  subst hi
  rw [run_index_string w 9 _ .i64 (d : Int) Try.underlying9]
  have hs : (⟨#[97, 98, 99, 100, 101, 102, 103, 104, 105, 106, 107, 108, 109, 110, 111, 112, 113, 114, 115, 116, 117, 118, 119, 120, 121, 122, 65, 66, 67, 68, 69, 70, 71, 72, 73, 74, 75, 76, 77, 78, 79, 80, 81, 82, 83, 84, 85, 86, 87, 88, 89, 90, 48, 49, 50, 51, 52, 53, 54, 55, 56, 57, 95]⟩ : ByteArray).size = 63 := rfl
  rw [dif_pos ⟨by omega, by rw [hs]; omega⟩]
  have e : ∀ d : Fin 63, ((⟨#[97, 98, 99, 100, 101, 102, 103, 104, 105, 106, 107, 108, 109, 110, 111, 112, 113, 114, 115, 116, 117, 118, 119, 120, 121, 122, 65, 66, 67, 68, 69, 70, 71, 72, 73, 74, 75, 76, 77, 78, 79, 80, 81, 82, 83, 84, 85, 86, 87, 88, 89, 90, 48, 49, 50, 51, 52, 53, 54, 55, 56, 57, 95]⟩ : ByteArray)[d.val]'(show d.val < 63 from d.isLt)) = ofL.getD d.val 0 := by decide
  have := e ⟨d, h⟩
  simp only [Int.toNat_natCast]
  rw [this]

theorem info5_ex : ∃ i : TypeInfo, Try.prog.info? 5 = some i ∧ i.zero = some (.int .u8 0) ∧ i.size = 1 ∧ i.bytes = 1 :=
  ⟨(Try.prog.info? 5).getD default, by kernel_rfl, by kernel_rfl, by kernel_rfl, by kernel_rfl⟩

def byC (l : List UInt8) : List Value := l.map fun c => .int .u8 (c.toNat : Int)

theorem own_string {w : World} {base g n cap : Nat} {l : List UInt8} (h : w.ownsRow base 5 1 (.slice (some ⟨g, 0, none⟩) n cap) n (byC l)) (hn : l.length = n) :
    (convert 62 9 (.slice (some ⟨g, 0, none⟩) n cap)).run Try.prog w = .ok (S l) w := by
  subst hn
  refine run_convert_bytes_back w 62 9 5 ⟨g, 0, none⟩ cap l Try.underlying62 Try.underlying5 Try.underlying9 fun j hj => ?_
  exact h.cells (g := g) rfl j _ (by simp [byC, List.getElem?_eq_getElem hj])

theorem runL_len {s : List UInt8} (h : 0 < s.length) : (runL s).length = min s.length 32 := by
  match s, h with
  | c :: r, _ => simp [runL]; omega
theorem runL_get {s : List UInt8} {k : Nat} (h1 : 1 ≤ k) (h2 : k < s.length) (h3 : k < 32) : (runL s).take (k + 1) = (runL s).take k ++ [ofL.getD ((s.getD k 0).toNat % 63) 0] := by
  match s, h2 with
  | c :: r, h2 =>
    obtain ⟨k, rfl⟩ : ∃ j, k = j + 1 := ⟨k - 1, by omega⟩
    have hr : k < r.length := by simpa using h2
    rw [List.take_add_one]
    congr 1
    show (((r.take 31).map fun x => ofL.getD (x.toNat % 63) 0)[k]?).toList = _
    rw [List.getElem?_map, List.getElem?_take, if_pos (by omega), List.getElem?_eq_getElem hr]
    show [_] = [_]
    congr 1
    show ofL.getD (r[k].toNat % 63) 0 = ofL.getD ((r.getD k 0).toNat % 63) 0
    rw [getD_lt hr]
theorem runL_one {s : List UInt8} (h : 0 < s.length) : (runL s).take 1 = [ofL.getD ((s.getD 0 0).toNat % 52) 0] := by
  match s, h with
  | c :: r, _ => rfl

theorem run_empty (w : World) : Calls Try.prog 27 #[S []] w fun e w' => e = .returned (S (runL [])) ∧ Below w.heap.size w w' := by
  have hcb : (convert 62 9 (.slice (some ⟨w.heap.size, 0, none⟩) 1 1)).run Try.prog (w.alloc (.cells #[.int .u8 113] 5)) = .ok (S [113]) (w.alloc (.cells #[.int .u8 113] 5)) :=
    own_string (base := w.heap.size) (l := [113]) ⟨rfl, .inr ⟨w.heap.size, 1, #[.int .u8 113], rfl, Nat.le_refl _, heap_alloc_new _ _, by omega, by decide, rfl, rfl⟩⟩ rfl
  go_enter Try.func27, Try.ntmps27
  go_wp2_with fail
  go_loop [3, 4] (fun b i => b = .slice (some ⟨w.heap.size, 0, none⟩) 1 1 ∧ i = .int .i64 1) (fun _ _ => 0)
  case atStart => exact ⟨rfl, rfl⟩
  case round =>
    obtain ⟨rfl, rfl⟩ := hrel
    go_wp2
    go_ret
    exact ⟨rfl, (Below.refl _ _).alloc (Nat.le_refl _) _⟩

set_option maxHeartbeats 4000000 in
theorem run_some (s : List UInt8) (w : World) (hs : 0 < s.length) (hl : (s.length : Int) ≤ 9223372036854775807) : Calls Try.prog 27 #[S s] w fun e w' => e = .returned (S (runL s)) ∧ Below w.heap.size w w' := by
  have h0' : (0 : Int) < s.length := by omega
  have hc0 : ({ data := s.toArray } : ByteArray)[0]'hs = s.getD 0 0 := (getD_lt hs).symm
  have hb := (s.getD 0 0).toNat_lt
  have H1 : Hid ((runL s).take 1 = [ofL.getD ((s.getD 0 0).toNat % 52) 0]) := runL_one hs
  have hix := fun w => index_of w ((s.getD 0 0).toNat % 52) (by omega) (((s.getD 0 0).toNat : Int) % 52) (by omega)
  generalize s.getD 0 0 = c at *
  generalize ofL.getD (c.toNat % 52) 0 = X at *
  obtain ⟨inf, hi1, hi2, hi3, hi4⟩ := info5_ex
  have HI : Hid (Try.prog.info? 5 = some inf ∧ inf.zero = some (.int .u8 0) ∧ inf.size = 1 ∧ inf.bytes = 1) := ⟨hi1, hi2, hi3, hi4⟩
  clear hi1 hi2 hi3 hi4
  go_enter Try.func27, Try.ntmps27
  go_wp2_with fail
  clear hix
  go_loopw [3, 4] (fun b i wr => ∃ (k g cap : Nat), i = .int .i64 k ∧ b = .slice (some ⟨g, 0, none⟩) k cap ∧ 1 ≤ k ∧ k ≤ s.length ∧ k ≤ 32 ∧ Hid (wr.ownsRow w.heap.size 5 1 (.slice (some ⟨g, 0, none⟩) k cap) k (byC ((runL s).take k))) ∧ Hid (Below w.heap.size w wr)) (fun _ i _ => 32 - (intOf i).toNat)
  case atStart =>
    refine ⟨1, w.heap.size, 1, rfl, rfl, by omega, by omega, by omega, ?_, (Below.refl _ _).alloc (Nat.le_refl _) _⟩
    show World.ownsRow _ _ _ _ _ _ _
    rw [H1.out]
    exact ⟨rfl, .inr ⟨w.heap.size, 1, _, rfl, Nat.le_refl _, heap_alloc_new _ _, by omega, by decide, rfl, rfl⟩⟩
  case round =>
    obtain ⟨k, g, cap, rfl, rfl, hk1, hks, hk32, HO, HB⟩ := hrel
    by_cases hlt : k < s.length ∧ k < 32
    · obtain ⟨hlt1, hlt2⟩ := hlt
      have hk' : (k : Int) < s.length := by omega
      have hk2' : (k : Int) < 32 := by omega
      have hck : ({ data := s.toArray } : ByteArray)[k]'hlt1 = s.getD k 0 := (getD_lt hlt1).symm
      have hbk := (s.getD k 0).toNat_lt
      have H2 : Hid ((runL s).take (k + 1) = (runL s).take k ++ [ofL.getD ((s.getD k 0).toNat % 63) 0]) := runL_get hk1 hlt1 hlt2
      have hix := fun w => index_of w ((s.getD k 0).toNat % 63) (by omega) (((s.getD k 0).toNat : Int) % 63) (by omega)
      have HSZ : Hid (w.heap.size ≤ wr.heap.size) := HB.out.size
      have HVB : Hid (∀ q, (Value.slice (some ⟨g, 0, none⟩) k cap).ownBlock = some q → w.heap.size ≤ q) := fun q hq => (HO.out.lt q hq).1
      generalize s.getD k 0 = d at *
      generalize ofL.getD (d.toNat % 63) 0 = Y at *
      clear hc0 hb
      go_wp2_with (at_builtin; refine Hid.out ?_)
      refine (show Hid _ from ?_)
      refine wpList_append_lies _ rfl _ _ 62 rfl w.heap.size 5 inf (.int .u8 0) 1 1 Try.underlying62 HI.out.1 HI.out.2.1 HI.out.2.2.1 HI.out.2.2.2 rfl (by decide) (.slice (some ⟨g, 0, none⟩) k cap) k (byC ((runL s).take k)) rfl (HO.out.alloc _) ⟨wr.heap.size, 0, none⟩ 1 1 [.int .u8 (Y.toNat : Int)] rfl rfl (World.news_of_block (cs := #[.int .u8 (Y.toNat : Int)]) (t := 5) (fr := (0, 0)) (heap_alloc_new _ _)) (by simp [Value.oneCell']) (by omega) (by unfold maxLen; omega) (by omega) (by have := HSZ.out; simp; omega) _ rfl ?_
      intro g2 cap2 w3 hown hgrow hat hlt3
      have HO2 : Hid (w3.ownsRow w.heap.size 5 1 (.slice (some ⟨g2, 0, none⟩) (k + 1) cap2) (k + 1) (byC ((runL s).take (k + 1)))) := by
        show World.ownsRow _ _ _ _ _ _ _
        rw [H2.out]
        have : byC ((runL s).take k ++ [Y]) = byC ((runL s).take k) ++ [.int .u8 (Y.toNat : Int)] := by simp [byC]
        rw [this]; exact hown
      have HB2 : Hid (Below w.heap.size w w3) := (HB.out.alloc HSZ.out _).grown hgrow (by have := HSZ.out; simp; omega) HVB.out
      clear hown hgrow hat hlt3
      go_wp2
      go_roundw
      case rel => exact ⟨k + 1, g2, cap2, by go_num, rfl, by omega, by omega, by omega, HO2.out, HB2.out⟩
      case measure => simp [intOf]; omega
    · have hfull : (runL s).take k = runL s := List.take_of_length_le (by rw [runL_len hs]; omega)
      have hcb : (convert 62 9 (.slice (some ⟨g, 0, none⟩) k cap)).run Try.prog wr = .ok (S (runL s)) wr := by
        have ho := HO.out
        rw [hfull] at ho
        refine own_string ho ?_
        rw [runL_len hs]
        have : (byC (runL s)).length = k * 1 := ho.1
        simp [byC, runL_len hs] at this
        omega
      have hq : decide (k < s.length) = false ∨ (k < s.length ∧ decide (k < 32) = false) := by
        by_cases h : k < s.length
        · exact .inr ⟨h, decide_eq_false (fun h2 => hlt ⟨h, h2⟩)⟩
        · exact .inl (decide_eq_false h)
      clear hlt hfull
      rcases hq with hq | ⟨hq1, hq2⟩
      · go_wp2
        go_ret
        exact ⟨rfl, HB.out⟩
      · have hq3 : (k : Int) < s.length := by omega
        have hq4 : decide ((k : Int) < 32) = false := decide_eq_false (by have := of_decide_eq_false hq2; omega)
        go_wp2
        go_ret
        exact ⟨rfl, HB.out⟩

theorem run_any (s : List UInt8) (w : World) (hl : (s.length : Int) ≤ 9223372036854775807) : Calls Try.prog 27 #[S s] w fun e w' => e = .returned (S (runL s)) ∧ Below w.heap.size w w' := by
  cases s with
  | nil => exact run_empty w
  | cons c r => exact run_some (c :: r) w (by simp) hl

end Go.Proofs.Ythnnmgiihpdblab
