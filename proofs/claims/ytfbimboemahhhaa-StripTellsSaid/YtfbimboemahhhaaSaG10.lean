/-
  Several texts in one: The contract of the document's own fit.
-/
import Derived.Test.YtfbimboemahhhaaSaG9
import Derived.Test.YtfbimboemahhhaaSaG5
import Derived.Test.YtfbimboemahhhaaSaG4
namespace Go.Proofs.Ytfbimboemahhhaa
open Go.Lib (hid)
open Go.RowKit
set_option maxHeartbeats 1000000 in
theorem rFit_any (wide big : Bool) (A : Option Addr) (n c : Nat) (l : List Nat) (w : World) (h : NS w w.heap.size .u64 A n c l) (hl : ∀ v ∈ l, v < 18446744073709551616) :
  Calls Try.prog 18 #[.agg #[.bool wide, .bool big], .slice A n c] w fun e w' => e = .returned (.bool (l.all (fitW wide))) ∧ Grow w w' := by
 have HS := hid h
 have HL := hid h.len
 have hcc := h.cap
 have hcm := h.max
 unfold maxLen at hcm
 have HM := hid hl
 have HW := hid (fun w => rfWord_any wide big w)
 clear h hl
 go_enter Try.func18, Try.ntmps18
 go_wp2_with fail
 generalize hW : World.alloc _ _ = W0
 obtain ⟨b1, hg0⟩ := blk1 hW
 clear hW
 have HF := hid b1
 have HG0 := hid hg0
 clear b1 hg0
 go_loopw [5] (fun i wr => ∃ k : Nat, k ≤ n ∧ i = .int .i64 k ∧ Hid (∀ v ∈ l.take k, fitW wide v = true) ∧ Grow W0 wr) (fun i _ => n - (intOf i).toNat)
 case atStart => exact ⟨0, by omega, rfl, hid (fun v h => absurd h (by simp)), Grow.refl _⟩
 case round =>
  obtain ⟨k, hk, rfl, HA, hg⟩ := hrel
  have HG := hid hg
  clear hg
  by_cases hlt : k < n
  ·have hkl : k < l.length := by rw [← HL.out]; exact hlt
   obtain ⟨b, off, rfl, hb, hcell⟩ := HS.out.pos (by omega)
   have HC := hid (hcell k hkl)
   have HBb := hid hb
   have HT := hid (takeS l k hkl)
   have HE := hid (fits_wide wide l[k])
   have HR := hid (fun w => refFits_any (l[k] : Int) (byWide wide 4 8 : Nat) w (by omega) (by have := HM.out _ (List.getElem_mem hkl); omega))
   have HMem := hid (List.getElem_mem hkl)
   generalize l[k] = v at HC HT HE HR HMem
   rw [HE.out] at HR
   clear hcell hb hkl
   go_wp2_with fail
   refine wp_region_chain [(0, true), (1, true), (2, true), (3, true), (4, true), (5, false), (6, false), (7, true)] (by kernel_rfl) (by kernel_rfl) (by kernel_rfl) ?_
   have HD : Hid (Grow W0 wr.drew) := HG.out.trans (Grow.of_drew _)
   have q : ∀ W, Grow wr.drew W → W.cell? ⟨b, off + k, none⟩ = some (.int .u64 (v : Int)) := fun W hW => (Below.cell (HG0.out.trans (HD.out.trans hW)) HBb.out).trans HC.out
   have u0 : ∀ W, Grow wr.drew W → W.cell? ⟨w.heap.size, 0, none⟩ = some (.bool wide) := fun W hW => (HF.out.grow (HD.out.trans hW)).at 0
   have u1 : ∀ W, Grow wr.drew W → W.cell? ⟨w.heap.size, 1, none⟩ = some (.bool big) := fun W hW => (HF.out.grow (HD.out.trans hW)).at 1
   clear HG
   generalize wr.drew = w2 at HD q u0 u1 ⊢
   repeat ((first | (refine chain_take rfl (by rfl) ?_ (fun W hG => ?_) ?_; rotate_left; (go_simp; rfl)) | refine chain_skip rfl (by rfl) ?_); simp only [Act.put, List.setIfInBounds_toArray, List.set_cons_zero, List.set_cons_succ])
   refine chain_only rfl (by rfl) (fun K hK => ?_)
   go_simp
   refine (HW.out _).mono ?_
   rintro e w3 ⟨rfl, hg3⟩
   refine hK _ _ hg3 ?_
   have HG3 : Hid (Grow W0 w3) := HD.out.trans hg3
   clear hK K hg3 q u0 u1 HD
   refine chain_only rfl (by rfl) (fun K hK => ?_)
   go_simp
   refine (HR.out _).mono ?_
   rintro e w4 ⟨rfl, rfl⟩
   refine hK _ _ (Grow.refl _) ?_
   clear hK K HR HE
   repeat ((first | (refine chain_take rfl (by rfl) ?_ (fun W hG => ?_) ?_; rotate_left; (go_simp; rfl)) | refine chain_skip rfl (by rfl) ?_); simp only [Act.put, List.setIfInBounds_toArray, List.set_cons_zero, List.set_cons_succ])
   refine chain_done ?_
   cases hf : fitW wide v with
   | false =>
    have E2 : Hid (l.all (fitW wide) = false) := hid (by
     rw [Bool.eq_false_iff]
     intro h
     have := List.all_eq_true.1 h v HMem.out
     rw [hf] at this
     cases this)
    clear hf
    go_wp2
    go_ret
    exact ⟨ret_bool E2.out.symm, HG0.out.trans HG3.out⟩
   | true =>
    have HA1 : Hid (∀ v ∈ l.take (k + 1), fitW wide v = true) := hid fun a ha => by
     rw [HT.out] at ha
     rcases List.mem_append.1 ha with h | h
     ·exact HA.out a h
     ·obtain rfl : a = v := by simpa using h
      exact hf
    clear hf
    go_wp2
    go_roundw
    case rel => exact ⟨k + 1, by omega, by go_num, HA1, HG3.out⟩
    case measure => simp [intOf]; omega
  ·have E2 : Hid (l.all (fitW wide) = true) := hid (by
    have e : l.take k = l := by rw [List.take_of_length_le (by have := HL.out; omega)]
    have := HA.out
    rw [e] at this
    exact List.all_eq_true.2 this)
   go_wp2
   go_ret
   exact ⟨ret_bool E2.out.symm, HG0.out.trans HG.out⟩
end Go.Proofs.Ytfbimboemahhhaa
