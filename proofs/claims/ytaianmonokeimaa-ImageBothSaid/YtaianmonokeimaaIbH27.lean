/-
  Several texts in one: copy of bytes into a block of the call's own; and what of a file's writing stays.
-/
import Derived.Test.YtaianmonokeimaaIbH26
import Derived.Test.YtaianmonokeimaaIbH21
namespace Go.Proofs.Ytaianmonokeimaa
open Go.RowKit
set_option linter.unusedVariables false
theorem put_nil (L : List UInt8) (p : Nat) : put L p [] = L := by
 unfold put
 simp
theorem map_put (L x : List UInt8) (p : Nat) : (put L p x).map byt = (L.map byt).take p ++ x.map byt ++ (L.map byt).drop (p + (x.map byt).length) := by
 unfold put
 simp [List.map_take, List.map_drop]
theorem run_copy_put {P : Program} (W : World) (dT sT ty elem : TypeId) (g n p : Nat) (L x : List UInt8) (A : Option Addr) (m c B : Nat) (t : TypeId)
  (hu : P.underlying dT = some (.slice elem)) (hs : (P.info? elem).map (·.size) = some 1)
  (hb : Blk W g t (L.map byt).toArray) (hn : n = L.length) (hr : RB W B A m c x) (hp : p + x.length ≤ L.length) :
  (Builtin.copy_ #[dT, sT] ty #[.slice (some (cutA ⟨g, 0, none⟩ n p)) (n - p) (n - p), .slice A m c]).run P W = .ok (.int .i64 (m : Int)) (W.setRow g ((put L p x).map byt).toArray) := by
 have hm := hr.len
 rcases A with _ | a
 ·have h0 : m = 0 := by
   rcases Nat.eq_zero_or_pos m with h0 | h0
   ·exact h0
   ·obtain ⟨_, _, e, _⟩ := hr.pos h0
    cases e
  have hx : x = [] := List.eq_nil_of_length_eq_zero (by omega)
  have hc0 : c = 0 ∨ True := .inr trivial
  subst hx
  rw [put_nil, Blk.same hb, h0]
  cases hq : P.info? elem with
  | none => simp [hq] at hs
  | some i => simp [Builtin.copy_, run_underlying hu, Builtin.lenOf, Builtin.firstCells, sizeOf, typeInfo, hq, storeCells, goInt]
 ·have hsrc : ∀ j v, (x.map byt)[j]? = some v → W.cell? (a.add j) = some v := fun j v hj => by
   have hjl : j < x.length := by have := (List.getElem?_eq_some_iff.1 hj).1; simpa using this
   obtain ⟨b, off, e, _, hc⟩ := hr.pos (by omega)
   injection e with e
   subst e
   have e2 : (⟨b, off, none⟩ : Addr).add j = ⟨b, off + j, none⟩ := by unfold Addr.add; split <;> simp_all
   rw [e2, hc j hjl]
   simp [hjl, byt] at hj
   rw [← hj]
  by_cases hpn : n = p
  ·have hx : x = [] := List.eq_nil_of_length_eq_zero (by omega)
   subst hx
   have e1 : cutA ⟨g, 0, none⟩ n p = ⟨g, 0, none⟩ := by unfold cutA; rw [if_pos hpn]
   have := run_copy_row P W dT sT ty elem g 0 (n - p) (n - p) a m c _ t [] hu hs hb (by simp at hm; simp [hm]) (fun j v hj => by simp at hj) (by simp) (fun v hv => by simp at hv)
   rw [e1, this, put_nil, hm]
   congr 1
  ·have e1 : cutA ⟨g, 0, none⟩ n p = ⟨g, p, none⟩ := by
    unfold cutA Addr.add
    rw [if_neg hpn]
    split <;> simp_all
   have := run_copy_row P W dT sT ty elem g p (n - p) (n - p) a m c _ t (x.map byt) hu hs hb (by rw [List.length_map, show m.min (n - p) = min m (n - p) from rfl, Nat.min_def]; split <;> omega) hsrc (by simp; omega) (byt_oneCell x)
   rw [e1, this, map_put]
   congr 1
   rw [hm]; simp [goInt]
theorem run_copy_put0 {P : Program} (W : World) (dT sT ty elem : TypeId) (g n : Nat) (L x : List UInt8) (A : Option Addr) (m c B : Nat) (t : TypeId)
  (hu : P.underlying dT = some (.slice elem)) (hs : (P.info? elem).map (·.size) = some 1)
  (hb : Blk W g t (L.map byt).toArray) (hn : n = L.length) (hr : RB W B A m c x) (hp : x.length ≤ L.length) :
  (Builtin.copy_ #[dT, sT] ty #[.slice (some ⟨g, 0, none⟩) n n, .slice A m c]).run P W = .ok (.int .i64 (m : Int)) (W.setRow g ((put L 0 x).map byt).toArray) := by
 have := run_copy_put (P := P) W dT sT ty elem g n 0 L x A m c B t hu hs hb hn hr (by omega)
 rw [cutA_zero] at this
 exact this
theorem made_zeros (n : Nat) : madeCells #[.int .u8 0] n = ((List.replicate n (0 : UInt8)).map byt).toArray := by
 apply Array.ext
 ·simp [madeCells]
 ·intro i h1 h2
  simp [madeCells, byt, Nat.mod_one]
structure WS (w W : World) (gm gp gf gB : Nat) (tm tp tf tB : TypeId) (cm cp cf : Array Value) (L : List UInt8) : Prop where
 m : Blk W gm tm cm
 p : Blk W gp tp cp
 f : Blk W gf tf cf
 b : Blk W gB tB (L.map byt).toArray
 w : Below w.heap.size w W
structure WA (w : World) (gm gp gf gB : Nat) : Prop where
 m : gm ≠ gB
 p : gp ≠ gB
 f : gf ≠ gB
 w : w.heap.size ≤ gB
section
variable {w W W' : World} {gm gp gf gB : Nat} {tm tp tf tB : TypeId} {cm cp cf : Array Value} {L : List UInt8}
theorem WS.grow (h : WS w W gm gp gf gB tm tp tf tB cm cp cf L) (hg : Grow W W') : WS w W' gm gp gf gB tm tp tf tB cm cp cf L :=
 ⟨h.m.grow hg, h.p.grow hg, h.f.grow hg, h.b.grow hg, h.w.trans (Below.mono hg h.w.size)⟩
theorem WS.drew (h : WS w W gm gp gf gB tm tp tf tB cm cp cf L) : WS w W.drew gm gp gf gB tm tp tf tB cm cp cf L := h.grow (Grow.of_drew _)
theorem WS.set (h : WS w W gm gp gf gB tm tp tf tB cm cp cf L) (a : WA w gm gp gf gB) (L' : List UInt8) : WS w (W.setRow gB (L'.map byt).toArray) gm gp gf gB tm tp tf tB cm cp cf L' :=
 ⟨h.m.other a.m _, h.p.other a.p _, h.f.other a.f _, h.b.set _, ⟨h.w.os, h.w.tape, h.w.output, by simpa using h.w.size, fun k hk => (setRow_other W gB k _ (by have := a.w; omega)).trans (h.w.block k hk)⟩⟩
theorem WS.cell (h : WS w W gm gp gf gB tm tp tf tB cm cp cf L) (a : WA w gm gp gf gB) {V : World} (hb : Bar gB W V) {b o : Nat} {v : Value} (hlt : b < w.heap.size) (hc : w.cell? ⟨b, o, none⟩ = some v) : V.cell? ⟨b, o, none⟩ = some v := by
 have h1 : W.cell? ⟨b, o, none⟩ = some v := (Below.cell h.w hlt).trans hc
 have hne : b ≠ gB := by have := a.w; omega
 have h2 : b < W.heap.size := Nat.lt_of_lt_of_le hlt h.w.size
 have h3 : V.heap[b]? = W.heap[b]? := hb.2 b h2 hne
 rw [← h1]
 unfold World.cell?
 simp only [h3]
end
end Go.Proofs.Ytaianmonokeimaa
