/-
  The contracts of dyn.Find and of the document's own Find: Val of the first entry of a Tag.
-/
import Derived.Test.YtlnadlhajjcaoaaDyA
import Derived.Test.YtlnadlhajjcaoaaZs
import Derived.Test.YtlnadlhajjcaoaaRoom
namespace Go.Proofs.Ytlnadlhajjcaoaa
open Go.RowKit

/-- The two cells of one of them. -/
theorem ZS.dy {w : World} {B b off n c : Nat} {L : List Dy} (h : ZS w B 2 (some ⟨b, off, none⟩) n c (L.map Dy.C)) (k : Nat) (hk : k < L.length) (s : Dy) (hs : L[k] = s) :
    w.cell? ⟨b, off + k * 2, none⟩ = some (.int .u64 (s.tag : Int)) ∧ w.cell? ⟨b, off + k * 2 + 1, none⟩ = some (.int .u64 (s.val : Int)) := by
  have hn := h.len
  rw [List.length_map] at hn
  obtain ⟨b', off', e, _, hc⟩ := h.pos (by omega)
  injection e with e
  injection e with e1 e2
  subst e1; subst e2
  have hkm : k < (L.map Dy.C).length := by rw [List.length_map]; exact hk
  have hg : (L.map Dy.C)[k] = s.C := by rw [List.getElem_map, hs]
  have key := hc k hkm
  rw [hg] at key
  exact ⟨key 0 _ rfl, key 1 _ rfl⟩

/-- What both answer. -/
def DFind (L : List Dy) (t : Nat) (w : World) (e : Ending) (w' : World) : Prop :=
  e = .returned (.tuple #[.int .u64 ((dyF L t).1 : Nat), .bool (dyF L t).2]) ∧ Grow w w'

theorem dFindRef_any (A : Option Addr) (n c : Nat) (L : List Dy) (t : Nat) (w : World) (h : ZS w w.heap.size 2 A n c (L.map Dy.C)) :
    Calls Try.prog 13 #[.slice A n c, .int .u64 t] w (DFind L t w) := by
  have HS := Lib.hid h
  have hl : n = L.length := by have := h.len; simpa using this
  have HL := Lib.hid hl
  have hc := h.cap
  have hm := h.max
  unfold maxLen at hm
  have HF : Hid (∀ k, n ≤ k → dyF (L.drop k) t = (0, false)) := Lib.hid (fun k hk => dyF_end L k t (by omega))
  have HA := Lib.hid (fun k (hk : k < L.length) => dyF_at (L := L) (t := t) hk)
  have H0 : Hid (dyF (L.drop 0) t = dyF L t) := Lib.hid rfl
  clear h hl
  unfold DFind
  generalize hY : dyF L t = Y at H0 ⊢
  have HY := Lib.hid hY
  clear hY
  obtain ⟨y1, y2⟩ := Y
  go_enter Try.func13, Try.ntmps13
  go_wp2_with fail
  go_loopw [6] (fun i wr => ∃ k : Nat, k ≤ n ∧ i = .int .i64 k ∧ dyF (L.drop k) t = (y1, y2) ∧ Grow w wr) (fun i _ => n - (intOf i).toNat)
  case atStart => exact ⟨0, Nat.zero_le _, rfl, H0.out, Grow.refl _⟩
  case round =>
    obtain ⟨k, hk, rfl, hf, hg⟩ := hrel
    have HFk := Lib.hid hf
    have HG := Lib.hid hg
    clear hf hg
    by_cases hlt : k < n
    · obtain ⟨b, o, rfl, hb, -⟩ := HS.out.pos (by omega)
      have hkl : k < L.length := by rw [← HL.out]; exact hlt
      obtain ⟨s, hs⟩ : ∃ s, L[k] = s := ⟨_, rfl⟩
      have q1 := (HS.out.belowAt HG.out (Nat.le_refl _)).dy k hkl s hs
      have hA := HA.out k hkl
      rw [hs, HFk.out] at hA
      obtain ⟨tag, val⟩ := s
      clear hs hkl
      obtain ⟨p0, p1⟩ := q1
      simp only [] at hA p0 p1
      have z0 : (0 : Int) ≤ (k : Int) := by omega
      have z1 : (k : Int) < (n : Int) := by omega
      by_cases ht : tag = t
      · have hA1 := hA.1 ht
        injection hA1 with e1 e2
        subst e1; subst e2; subst ht
        clear hA
        go_wp2
        go_ret2
        exact ⟨rfl, HG.out⟩
      · have hA2 := Lib.hid (hA.2 ht)
        have d1 : ((tag : Int) == (t : Int)) = false := by simp; omega
        clear hA ht
        go_wp2
        go_roundw
        case rel => exact ⟨k + 1, by omega, by go_num, hA2.out, HG.out⟩
        case measure => simp [intOf]; omega
    · have hE := HF.out k (by omega)
      rw [HFk.out] at hE
      injection hE with e1 e2
      subst e1; subst e2
      go_wp2
      go_ret2
      exact ⟨rfl, HG.out⟩

theorem dFind_any (A : Option Addr) (n c : Nat) (L : List Dy) (t : Nat) (w : World) (h : ZS w w.heap.size 2 A n c (L.map Dy.C)) :
    Calls Try.prog 12 #[.slice A n c, .int .u64 t] w (DFind L t w) := by
  have HS := Lib.hid h
  have hl : n = L.length := by have := h.len; simpa using this
  have HL := Lib.hid hl
  have hc := h.cap
  have hm := h.max
  unfold maxLen at hm
  have HF : Hid (∀ k, n ≤ k → dyF (L.drop k) t = (0, false)) := Lib.hid (fun k hk => dyF_end L k t (by omega))
  have HA := Lib.hid (fun k (hk : k < L.length) => dyF_at (L := L) (t := t) hk)
  have H0 : Hid (dyF (L.drop 0) t = dyF L t) := Lib.hid rfl
  clear h hl
  unfold DFind
  generalize hY : dyF L t = Y at H0 ⊢
  have HY := Lib.hid hY
  clear hY
  obtain ⟨y1, y2⟩ := Y
  go_enter Try.func12, Try.ntmps12
  go_wp2_with fail
  go_loopw [10] (fun i wr => ∃ k : Nat, k ≤ n ∧ i = .int .i64 k ∧ dyF (L.drop k) t = (y1, y2) ∧ Grow w wr) (fun i _ => n - (intOf i).toNat)
  case atStart => exact ⟨0, Nat.zero_le _, rfl, H0.out, Grow.refl _⟩
  case round =>
    obtain ⟨k, hk, rfl, hf, hg⟩ := hrel
    have HFk := Lib.hid hf
    have HG := Lib.hid hg
    clear hf hg
    by_cases hlt : k < n
    · obtain ⟨b, o, rfl, hb, -⟩ := HS.out.pos (by omega)
      have hkl : k < L.length := by rw [← HL.out]; exact hlt
      obtain ⟨s, hs⟩ : ∃ s, L[k] = s := ⟨_, rfl⟩
      have HSw := Lib.hid (HS.out.belowAt HG.out (Nat.le_refl _))
      have HkM : Hid (k < (L.map Dy.C).length) := Lib.hid (by simpa using hkl)
      have HCk : Hid (∀ hk : k < (L.map Dy.C).length, (L.map Dy.C)[k] = s.C) := Lib.hid (fun _ => by rw [List.getElem_map, hs])
      have hA := HA.out k hkl
      rw [hs, HFk.out] at hA
      generalize L.map Dy.C = M at HSw HkM HCk
      obtain ⟨tag, val⟩ := s
      unfold Dy.C at HCk
      have HC1 : Hid ((#[.int .u64 (tag : Int), .int .u64 (val : Int)] : Array Value).all (·.oneCell') = true) := Dy.one ⟨tag, val⟩
      simp only [] at hA HCk
      clear hs hkl
      have z0 : (0 : Int) ≤ (k : Int) := by omega
      have z1 : (k : Int) < (n : Int) := by omega
      go_wp2_with (first | (refine wpList_load_zs HSw.out HkM.out rfl 46 (.tmp 12) rfl rfl _ Try.underlying46 rfl (by kernel_rfl) _ (HCk.out _) ?_) | (refine wpList_store_row rfl 46 (.tmp 7) (.tmp 13) rfl wr.heap.size _ rfl rfl _ _ (Blk.new _ _ _) (by kernel_rfl) rfl HC1.out ?_; rw [World.setRow_alloc_new]; refine Hid.out ?_))
      generalize hW : World.alloc _ _ = w3
      obtain ⟨br, hg3⟩ := blk1 hW
      have HBR := Lib.hid br
      have HG3 : Hid (Grow w w3) := HG.out.trans hg3
      generalize wr.heap.size = g8 at HBR ⊢
      clear hW hg3 br HG HSw HkM HCk HC1 z0 z1
      refine Lib.hid (wpList_nil ?_)
      unfold Exit.then
      apply_assumption
      have y0 := HBR.out.at 0
      have y1' := HBR.out.at 1
      simp at y0 y1'
      by_cases ht : tag = t
      · have hA1 := hA.1 ht
        injection hA1 with e1 e2
        subst e1; subst e2; subst ht
        clear hA
        go_wp2
        go_ret2
        exact ⟨rfl, HG3.out⟩
      · have hA2 := Lib.hid (hA.2 ht)
        have d1 : ((tag : Int) == (t : Int)) = false := by simp; omega
        clear hA ht
        go_wp2
        go_roundw
        case rel => exact ⟨k + 1, by omega, by go_num, hA2.out, HG3.out⟩
        case measure => simp [intOf]; omega
    · have hE := HF.out k (by omega)
      rw [HFk.out] at hE
      injection hE with e1 e2
      subst e1; subst e2
      go_wp2
      go_ret2
      exact ⟨rfl, HG.out⟩
end Go.Proofs.Ytlnadlhajjcaoaa
