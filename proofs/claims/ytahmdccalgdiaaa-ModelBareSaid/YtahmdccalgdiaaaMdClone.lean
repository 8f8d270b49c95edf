/-
  The contract of bytes.Clone, at nil too.
-/
import Derived.Test.YtahmdccalgdiaaaRows
import Derived.Test.YtahmdccalgdiaaaMdMem
namespace Go.Proofs.Ytahmdccalgdiaaa
open Go.RowKit

set_option maxHeartbeats 400000 in
theorem clone_some (a : Addr) (n c : Nat) (l : List UInt8) (B : Nat) (w : World) (h : RB w B (some a) n c l) (hB : B ≤ w.heap.size) (hn : n ≤ 140737488355328) :
    Calls Try.prog 14 #[.slice (some a) n c] w fun e w' => ∃ A2 c2, e = .returned (.slice A2 n c2) ∧ OB w' w.heap.size 5 A2 n c2 l ∧ Grow w w' := by
  have HR := Lib.hid h
  have HL := Lib.hid h.len
  have hc := h.cap
  have hm := h.max
  unfold maxLen at hm
  clear h
  have hz : n ≤ 140737488355328 := hn
  have HO := Lib.hid (OB.of_blk (base := w.heap.size) (l := []) (Blk.new w 5 #[]) (Nat.le_refl _) (by decide))
  have hg1 := Grow.of_alloc w (.cells #[] 5)
  have HR1 := Lib.hid (HR.out.belowAt hg1 hB)
  have HG1 := Lib.hid hg1
  have HS1 := Lib.hid hg1.size
  clear hg1 HR
  have heq : ∀ w, (binOp .eql 38 (.slice (some a) n c) (.slice none 0 0)).run Try.prog w = .ok (.bool false) w := fun w => by rfl
  go_enter Try.func14, Try.ntmps14
  go_wp2_with (refine wpList_appendB (w.alloc (.cells #[] 5)) rfl (.tmp 5) (.tmp 6) 38 rfl w.heap.size 5 Try.underlying38 (by kernel_rfl) _ _ _ _ rfl HO.out B _ n c l rfl HR1.out (by simpa using hz) HS1.out ?_; intro A5 c5 w9 ho9 hb9; refine Hid.out ?_)
  have HO9 := Lib.hid ho9
  have HB9 : Hid (Grow w w9) := HG1.out.trans' hb9
  clear ho9 hb9 HO HR1 HG1 HS1
  refine Lib.hid ?_
  go_wp2
  go_ret
  have h9 := HO9.out
  rw [Nat.zero_add, List.nil_append] at h9
  exact ⟨A5, c5, rfl, h9, HB9.out⟩

/-- What Clone, and Bytes, answer. -/
def NewB (l : List UInt8) (w : World) (e : Ending) (w' : World) : Prop := ∃ A2 c2, e = .returned (.slice A2 l.length c2) ∧ OB w' w.heap.size 5 A2 l.length c2 l ∧ Grow w w'
theorem NewB.nil (w w' : World) (h : Grow w w') : NewB [] w (.returned (.slice none 0 0)) w' := ⟨none, 0, rfl, OB.nil, h⟩
theorem NewB.from {l : List UInt8} {w0 w w' : World} {e : Ending} (h : NewB l w e w') (hg : Grow w0 w) : NewB l w0 e w' := by
  obtain ⟨A2, c2, h1, h2, h3⟩ := h
  exact ⟨A2, c2, h1, h2.mono hg.size, hg.trans h3⟩

theorem clone_any (A : Option Addr) (n c : Nat) (l : List UInt8) (B : Nat) (w : World) (h : RB w B A n c l) (hB : B ≤ w.heap.size) (hn : n ≤ 140737488355328) :
    Calls Try.prog 14 #[.slice A n c] w (NewB l w) := by
  rcases A with _ | a
  · have hl : l = [] := by
      rcases Nat.eq_zero_or_pos n with h0 | h0
      · exact List.eq_nil_of_length_eq_zero (by rw [← h.len]; exact h0)
      · obtain ⟨_, _, e, _⟩ := h.pos h0
        cases e
    subst hl
    clear h
    have heq : ∀ w, (binOp .eql 38 (.slice none n c) (.slice none 0 0)).run Try.prog w = .ok (.bool true) w := fun w => by rfl
    go_enter Try.func14, Try.ntmps14
    go_wp2
    go_ret
    exact NewB.nil _ _ (Grow.refl _)
  · refine (clone_some a n c l B w h hB hn).mono ?_
    rintro e w' ⟨A2, c2, rfl, h1, h2⟩
    obtain rfl := h.len
    exact ⟨A2, c2, rfl, h1, h2⟩
end Go.Proofs.Ytahmdccalgdiaaa
