/-
  Slices of slices of bytes, of no bytes too, wherever they begin (at the end of their room too). No program's function is spoken of here.
-/
import Derived.Test.YtahmdccalgdiaaaMem
namespace Go.Proofs.Ytahmdccalgdiaaa
open Go.RowKit

/-- Where a[p:] begins, of c bytes of room. -/
def cutA (a : Addr) (c p : Nat) : Addr := if c = p then a else a.add p
theorem cutA_zero (a : Addr) (c : Nat) : cutA a c 0 = a := by unfold cutA Addr.add; split <;> simp

section
variable {w : World} {B n c : Nat} {a : Addr} {l : List UInt8}
theorem RB.cut (h : RB w B (some a) n c l) {p m : Nat} (hp : p + m ≤ n) : RB w B (some (cutA a c p)) m (c - p) ((l.drop p).take m) := by
  have hl := h.len
  have hcap := h.cap
  have hmax := h.max
  by_cases h0 : 0 < m
  · obtain ⟨b, off, e, -, -⟩ := h.pos (by omega)
    injection e with e
    subst e
    have := h.sub hp h0
    have e2 : cutA ⟨b, off, none⟩ c p = ⟨b, off + p, none⟩ := by
      unfold cutA Addr.add
      rw [if_neg (by omega)]
      split <;> simp_all
    rw [e2]
    exact this
  · have : m = 0 := by omega
    subst this
    exact ⟨by simp, by omega, by omega, fun h => absurd h (by omega)⟩
end

section
variable {P : Program} (t : TypeId) (ht : P.underlying t = some (.slice (P.elem t))) (hz : ∀ W, (sizeOf (P.elem t)).run P W = .ok 1 W) (a : Addr) (n c : Nat)
include ht hz
theorem run_cut_lh (kl kh : IntKind) (p q : Nat) (hpq : p ≤ q) (hq : q ≤ c) (W : World) :
    (Instr.slice t (.slice (some a) n c) (some (.int kl (p : Int))) (some (.int kh (q : Int))) none).run P W = .ok (.slice (some (cutA a c p)) (q - p) (c - p)) W := by
  rw [run_slice_lh W t (some a) n c ht kl kh p q (by omega) (by omega) (by omega), hz]
  simp only [Result.andThen, sliced, Int.toNat_natCast, Nat.mul_one, Option.map_some]
  unfold cutA
  split <;> rfl
theorem run_cut_h (kh : IntKind) (q : Nat) (hq : q ≤ c) (W : World) :
    (Instr.slice t (.slice (some a) n c) none (some (.int kh (q : Int))) none).run P W = .ok (.slice (some a) q c) W := by
  rw [run_slice_h W t (some a) n c ht kh q (by omega) (by omega), hz]
  simp only [Result.andThen, sliced, Int.toNat_natCast, Nat.zero_mul, Option.map_some, Nat.sub_zero]
  have : a.add 0 = a := by unfold Addr.add; simp
  rw [this]
  split <;> rfl
theorem run_cut_l (kl : IntKind) (p : Nat) (hp : p ≤ n) (W : World) :
    (Instr.slice t (.slice (some a) n c) (some (.int kl (p : Int))) none none).run P W = .ok (.slice (some (cutA a c p)) (n - p) (c - p)) W := by
  rw [run_slice_l W t (some a) n c ht kl p (by omega) (by omega), hz]
  simp only [Result.andThen, sliced, Int.toNat_natCast, Nat.mul_one, Option.map_some]
  unfold cutA
  split <;> rfl
end
end Go.Proofs.Ytahmdccalgdiaaa
