/-
  The contracts of sym.Index and of the document's own Index: the section of any symbol, alike.
-/
import Derived.Test.YtodcnlihhilfkaaSySame
import Derived.Test.YtodcnlihhilfkaaWireGet
import Derived.Test.YtodcnlihhilfkaaRefGet
namespace Go.Proofs.Ytodcnlihhilfkaa
open Go.RowKit

/-- What Index tells. -/
def IdxR (L : List Sy) (x : List UInt8) (big : Bool) (i : Int) (w : World) (e : Ending) (w' : World) : Prop :=
  e = .returned (.tuple #[.int .u32 (idxV L x big i : Int), .bool (idxB L x i)]) ∧ Grow w w'
theorem idx_out {L : List Sy} {x : List UInt8} {big : Bool} {i : Int} (h : i < 0 ∨ (L.length : Int) ≤ i) : idxV L x big i = 0 ∧ idxB L x i = false := by
  simp only [idxV, idxB, if_pos h, and_self]
theorem idx_plain {L : List Sy} {x : List UInt8} {big : Bool} {k : Nat} (h : k < L.length) (hs : L[k].shn ≠ 65535) : idxV L x big k = L[k].shn ∧ idxB L x k = true := by
  have h0 : ¬ ((k : Int) < 0 ∨ (L.length : Int) ≤ (k : Int)) := by omega
  have e : L.getD (k : Int).toNat sy0 = L[k] := by rw [Int.toNat_natCast, List.getD_eq_getElem?_getD, List.getElem?_eq_getElem h]; rfl
  simp only [idxV, idxB, if_neg h0, e, if_neg hs, and_self]
theorem idx_ext {L : List Sy} {x : List UInt8} {big : Bool} {k : Nat} (h : k < L.length) (hs : L[k].shn = 65535) : idxV L x big k = gotV x (4 * k : Nat) 4 big ∧ idxB L x k = gotB x (4 * k : Nat) 4 := by
  have h0 : ¬ ((k : Int) < 0 ∨ (L.length : Int) ≤ (k : Int)) := by omega
  have e : L.getD k sy0 = L[k] := by rw [List.getD_eq_getElem?_getD, List.getElem?_eq_getElem h]; rfl
  have hg : gotB x (4 * k : Nat) 4 = decide (4 * k + 4 ≤ x.length) := by
    simp only [gotB, show wid 4 = true from rfl, Bool.true_and, wthn]
    rw [Bool.eq_iff_iff, decide_eq_true_iff, decide_eq_true_iff]; omega
  simp only [idxV, idxB, if_neg h0, e, if_pos hs, Int.toNat_natCast, gotV, hg]
  by_cases h4 : 4 * k + 4 ≤ x.length
  · simp [h4]
  · simp [h4]
theorem gotV_32 (x : List UInt8) (k : Nat) (big : Bool) : gotV x (k : Nat) 4 big < 4294967296 := by
  unfold gotV
  split
  · refine Nat.lt_of_lt_of_le (getB_lt _ _) (show _ ≤ 256 ^ 4 from Nat.pow_le_pow_right (by decide) ?_)
    rw [List.length_take]
    have : (4 : Int).toNat = 4 := rfl
    omega
  · omega

set_option maxHeartbeats 400000 in
theorem idx_any (A : Option Addr) (n c : Nat) (L : List Sy) (A' : Option Addr) (n' c' : Nat) (x : List UInt8) (wide big : Bool) (i : Int) (w : World) (h : ZS w w.heap.size 6 A n c (L.map Sy.C)) (h' : RB w w.heap.size A' n' c' x)
    (hok : ∀ s ∈ L, s.Ok) (hl : L.length ≤ 1000) :
    Calls Try.prog 12 #[.slice A n c, .slice A' n' c', .agg #[.bool wide, .bool big], .int .i64 i] w (IdxR L x big i w) := by
  have hn : n = L.length := by have := h.len; simpa using this
  have HN := Lib.hid hn
  have HS := Lib.hid h
  have HR := Lib.hid h'
  have hc := h.cap
  have hm := h.max
  unfold maxLen at hm
  have hn1 : n ≤ 1000 := by omega
  clear h h' hl
  unfold IdxR
  by_cases h0 : i < 0
  · obtain ⟨e1, e2⟩ := idx_out (L := L) (x := x) (big := big) (.inl h0)
    rw [e1, e2]
    clear hn hok e1 e2
    go_enter Try.func12, Try.ntmps12
    go_wp2
    go_ret2
    exact ⟨rfl, Grow.of_alloc _ _⟩
  by_cases h1 : (n : Int) ≤ i
  · obtain ⟨e1, e2⟩ := idx_out (L := L) (x := x) (big := big) (i := i) (.inr (by rw [← hn]; exact h1))
    rw [e1, e2]
    clear hn hok e1 e2
    go_enter Try.func12, Try.ntmps12
    go_wp2
    go_ret2
    exact ⟨rfl, Grow.of_alloc _ _⟩
  obtain ⟨k, rfl⟩ : ∃ k : Nat, i = (k : Int) := ⟨i.toNat, by omega⟩
  have hkn : k < n := by omega
  have hkl : k < L.length := by omega
  obtain ⟨b, off, rfl, hb, -⟩ := HS.out.pos (by omega)
  have ok := (hok _ (List.getElem_mem hkl)).shn
  have E1 : Hid (L[k].shn ≠ 65535 → _) := Lib.hid (fun hs => idx_plain (x := x) (big := big) hkl hs)
  have E2 : Hid (L[k].shn = 65535 → _) := Lib.hid (fun hs => idx_ext (x := x) (big := big) hkl hs)
  have q := (HS.out.sy k hkl _ rfl).2.2.2.1
  generalize L[k].shn = shn at E1 E2 q ok
  have q1 : (w.alloc (.cells #[.bool wide, .bool big] 24)).cell? ⟨b, off + k * 6 + 3, none⟩ = some (.int .u16 (shn : Int)) := (Below.cell (Grow.of_alloc w (.cells #[.bool wide, .bool big] 24)) hb).trans q
  have z0 : ¬ (k : Int) < 0 := by omega
  have z1 : ¬ (n : Int) ≤ (k : Int) := by omega
  have z2 : (k : Int) < (n : Int) := by omega
  clear hn hok h0 h1 hkl q
  by_cases hs : shn = 65535
  · obtain ⟨e1, e2⟩ := E2.out hs
    rw [e1, e2]
    have HV := gotV_32 x (4 * k) big
    obtain ⟨v, hv⟩ : ∃ v, gotV x (4 * k : Nat) 4 big = v := ⟨_, rfl⟩
    obtain ⟨g, hg⟩ : ∃ g, gotB x (4 * k : Nat) 4 = g := ⟨_, rfl⟩
    rw [hv, hg]
    rw [hv] at HV
    have Hv := Lib.hid hv
    have Hg := Lib.hid hg
    subst hs
    clear hv hg
    clear e1 e2 E1 E2
    have z3 : IntKind.u64.wrap (k : Int) = (k : Int) := by rw [IntKind.wrap_u64]; omega
    have z4 : IntKind.u64.wrap (4 * (k : Int)) = ((4 * k : Nat) : Int) := by rw [IntKind.wrap_u64]; omega
    go_enter Try.func12, Try.ntmps12
    go_wp2_with fail
    generalize hW : World.alloc _ _ = W0
    obtain ⟨-, hg0⟩ := blk1 hW
    have HG0 := Lib.hid hg0
    clear hW q1 hg0
    refine (get_any A' n' c' x _ (4 * k : Nat) 4 big W0 (HR.out.belowAt HG0.out (Nat.le_refl _)) (by omega)).mono ?_
    rintro e w1 ⟨rfl, j, rfl⟩
    rw [Hv.out, Hg.out]
    have HG1 : Hid (Grow w (W0.drewN j)) := HG0.out.trans (Grow.of_drewN _ _)
    have z5 : IntKind.u32.wrap (v : Int) = (v : Int) := by rw [IntKind.wrap_u32]; omega
    go_wp2
    go_ret2
    exact ⟨rfl, HG1.out⟩
  · obtain ⟨e1, e2⟩ := E1.out hs
    rw [e1, e2]
    have hs1 : ((shn : Int) != 65535) = true := by simp; omega
    have z5 : IntKind.u32.wrap (shn : Int) = (shn : Int) := by rw [IntKind.wrap_u32]; omega
    clear e1 e2 E1 E2 hs ok
    go_enter Try.func12, Try.ntmps12
    go_wp2
    go_ret2
    exact ⟨rfl, Grow.of_alloc _ _⟩

set_option maxHeartbeats 400000 in
theorem refIdx_any (A : Option Addr) (n c : Nat) (L : List Sy) (A' : Option Addr) (n' c' : Nat) (x : List UInt8) (wide big : Bool) (i : Int) (w : World) (h : ZS w w.heap.size 6 A n c (L.map Sy.C)) (h' : RB w w.heap.size A' n' c' x)
    (hok : ∀ s ∈ L, s.Ok) (hl : L.length ≤ 1000) :
    Calls Try.prog 13 #[.slice A n c, .slice A' n' c', .agg #[.bool wide, .bool big], .int .i64 i] w (IdxR L x big i w) := by
  have hn : n = L.length := by have := h.len; simpa using this
  have HN := Lib.hid hn
  have HS := Lib.hid h
  have HR := Lib.hid h'
  have hc := h.cap
  have hm := h.max
  unfold maxLen at hm
  have hn1 : n ≤ 1000 := by omega
  clear h h' hl
  unfold IdxR
  by_cases h0 : i < 0
  · obtain ⟨e1, e2⟩ := idx_out (L := L) (x := x) (big := big) (.inl h0)
    rw [e1, e2]
    clear hn hok e1 e2
    go_enter Try.func13, Try.ntmps13
    go_wp2
    go_ret2
    exact ⟨rfl, Grow.of_alloc _ _⟩
  by_cases h1 : (n : Int) ≤ i
  · obtain ⟨e1, e2⟩ := idx_out (L := L) (x := x) (big := big) (i := i) (.inr (by rw [← hn]; exact h1))
    rw [e1, e2]
    clear hn hok e1 e2
    go_enter Try.func13, Try.ntmps13
    go_wp2
    go_ret2
    exact ⟨rfl, Grow.of_alloc _ _⟩
  obtain ⟨k, rfl⟩ : ∃ k : Nat, i = (k : Int) := ⟨i.toNat, by omega⟩
  have hkn : k < n := by omega
  have hkl : k < L.length := by omega
  obtain ⟨b, off, rfl, hb, -⟩ := HS.out.pos (by omega)
  have ok := (hok _ (List.getElem_mem hkl)).shn
  have E1 : Hid (L[k].shn ≠ 65535 → _) := Lib.hid (fun hs => idx_plain (x := x) (big := big) hkl hs)
  have E2 : Hid (L[k].shn = 65535 → _) := Lib.hid (fun hs => idx_ext (x := x) (big := big) hkl hs)
  have q := (HS.out.sy k hkl _ rfl).2.2.2.1
  generalize L[k].shn = shn at E1 E2 q ok
  have q1 : (w.alloc (.cells #[.bool wide, .bool big] 24)).cell? ⟨b, off + k * 6 + 3, none⟩ = some (.int .u16 (shn : Int)) := (Below.cell (Grow.of_alloc w (.cells #[.bool wide, .bool big] 24)) hb).trans q
  have z0 : ¬ (k : Int) < 0 := by omega
  have z1 : ¬ (n : Int) ≤ (k : Int) := by omega
  have z2 : (k : Int) < (n : Int) := by omega
  clear hn hok h0 h1 hkl q
  by_cases hs : shn = 65535
  · obtain ⟨e1, e2⟩ := E2.out hs
    rw [e1, e2]
    have HV := gotV_32 x (4 * k) big
    obtain ⟨v, hv⟩ : ∃ v, gotV x (4 * k : Nat) 4 big = v := ⟨_, rfl⟩
    obtain ⟨g, hg⟩ : ∃ g, gotB x (4 * k : Nat) 4 = g := ⟨_, rfl⟩
    rw [hv, hg]
    rw [hv] at HV
    have Hv := Lib.hid hv
    have Hg := Lib.hid hg
    subst hs
    clear hv hg
    clear e1 e2 E1 E2
    have z3 : IntKind.i64.wrap (4 * (k : Int)) = 4 * (k : Int) := by rw [IntKind.wrap_i64]; omega
    have z4 : IntKind.u64.wrap (4 * (k : Int)) = ((4 * k : Nat) : Int) := by rw [IntKind.wrap_u64]; omega
    go_enter Try.func13, Try.ntmps13
    go_wp2_with fail
    generalize hW : World.alloc _ _ = W0
    obtain ⟨-, hg0⟩ := blk1 hW
    have HG0 := Lib.hid hg0
    clear hW q1 hg0
    refine (refGet_any A' n' c' x _ (4 * k : Nat) 4 big W0 (HR.out.belowAt HG0.out (Nat.le_refl _)) (by omega)).mono ?_
    rintro e w1 ⟨rfl, rfl⟩
    rw [Hv.out, Hg.out]
    have z5 : IntKind.u32.wrap (v : Int) = (v : Int) := by rw [IntKind.wrap_u32]; omega
    go_wp2
    go_ret2
    exact ⟨rfl, HG0.out⟩
  · obtain ⟨e1, e2⟩ := E1.out hs
    rw [e1, e2]
    have hs1 : ((shn : Int) != 65535) = true := by simp; omega
    have z5 : IntKind.u32.wrap (shn : Int) = (shn : Int) := by rw [IntKind.wrap_u32]; omega
    clear e1 e2 E1 E2 hs ok
    go_enter Try.func13, Try.ntmps13
    go_wp2
    go_ret2
    exact ⟨rfl, Grow.of_alloc _ _⟩
end Go.Proofs.Ytodcnlihhilfkaa
