/-
  Several texts in one: The contracts of file; copy of bytes into a block of the call's own; and what of a file's writing stays.
-/
import Derived.Test.YtfglppjilcaafaaGreatDoorTbH18
import Derived.Test.YtfglppjilcaafaaGreatDoorTbH19
import Derived.Test.YtfglppjilcaafaaGreatDoorTbH16
namespace Go.Proofs.YtfglppjilcaafaaGreatDoor
open Go.Lib (hid)
open Go.RowKit
set_option maxRecDepth 100000
theorem entry_any (b i z : Nat) (w : World) (h : b + i * z < 18446744073709551616) (hi : i < 100000) (hz : z < 1000) :
  Calls Tryz.prog 58 #[.int .u64 (b : Int), .int .i64 (i : Int), .int .i64 (z : Int)] w fun e w' => e = .returned (.int .u64 ((b + i * z : Nat) : Int)) ∧ w = w' := by
 have q1 : IntKind.u64.wrap (i : Int) = (i : Int) := by rw [IntKind.wrap_u64]; omega
 have q2 : IntKind.u64.wrap (z : Int) = (z : Int) := by rw [IntKind.wrap_u64]; omega
 have q3 : IntKind.u64.wrap ((i : Int) * (z : Int)) = ((i * z : Nat) : Int) := by
  have : (i : Int) * (z : Int) = ((i * z : Nat) : Int) := by simp
  rw [this, IntKind.wrap_u64]
  omega
 have q4 : IntKind.u64.wrap ((b : Int) + ((i * z : Nat) : Int)) = ((b + i * z : Nat) : Int) := by rw [IntKind.wrap_u64]; omega
 clear h hi hz
 generalize b + i * z = R at q4 ⊢
 generalize i * z = P at q3 q4
 go_enter Tryz.func58, Tryz.ntmps58
 go_wp2
 go_ret
 exact ⟨rfl, rfl⟩
theorem entry1_any (b k z : Nat) (w : World) (h : b + (k + 1) * z < 18446744073709551616) (hi : k + 1 < 100000) (hz : z < 1000) :
  Calls Tryz.prog 58 #[.int .u64 (b : Int), .int .i64 ((k : Int) + 1), .int .i64 (z : Int)] w fun e w' => e = .returned (.int .u64 ((b + (k + 1) * z : Nat) : Int)) ∧ w = w' := by
 have := entry_any b (k + 1) z w h hi hz
 have e : ((k + 1 : Nat) : Int) = (k : Int) + 1 := by omega
 rw [e] at this
 exact this
theorem progOf_any (s : Sg) (off : Nat) (S : Value) (w : World) :
  Calls Tryz.prog 57 #[.agg (sgC s S), .int .u64 (off : Int)] w fun e w' => e = .returned (Pg.V ⟨s.typ, s.flags, off, s.vaddr, s.paddr, s.pl.size, s.memsz, s.align⟩) ∧ Grow w w' := by
 obtain ⟨x0, x1, x2, x3, x4, x5, i, p, z, o⟩ := s
 unfold sgC
 simp only []
 go_enter Tryz.func57, Tryz.ntmps57
 go_wp2_with (refine wpList_store_row rfl 130 (.tmp 4) (.tmp 21) rfl (w.heap.size + 1) (Pg.C ⟨x0, x1, off, x2, x3, z, x4, x5⟩) rfl rfl _ _ (blk2 rfl).2.1 (by kernel_rfl) rfl (Pg.one _) ?_)
 refine bodyPost_ret (results_cell_row (cs := Pg.C ⟨x0, x1, off, x2, x3, z, x4, x5⟩) rfl _ _ (w.heap.size + 1) _ (0, 0) _ rfl ((blk2 rfl).2.1.set _) Tryz.underlying130 rfl (by kernel_rfl)) rfl ?_
 exact ⟨rfl, Grow.set (blk2 rfl).2.2 (Nat.le_succ _) _⟩
theorem sectOf_any (s : Se) (off : Nat) (S : Value) (w : World) :
  Calls Tryz.prog 61 #[.agg (seC s S), .int .u64 (off : Int)] w fun e w' => e = .returned (Sc.V ⟨s.name, s.typ, s.flags, s.addr, off, s.size, s.link, s.info, s.align, s.entsize⟩) ∧ Grow w w' := by
 obtain ⟨x0, x1, x2, x3, x4, x5, x6, x7, x8, i, p, z, o⟩ := s
 unfold seC
 simp only []
 go_enter Tryz.func61, Tryz.ntmps61
 go_wp2_with (refine wpList_store_row rfl 136 (.tmp 4) (.tmp 24) rfl (w.heap.size + 1) (Sc.C ⟨x0, x1, x2, x3, off, x4, x5, x6, x7, x8⟩) rfl rfl _ _ (blk2 rfl).2.1 (by kernel_rfl) rfl (Sc.one _) ?_)
 refine bodyPost_ret (results_cell_row (cs := Sc.C ⟨x0, x1, x2, x3, off, x4, x5, x6, x7, x8⟩) rfl _ _ (w.heap.size + 1) _ (0, 0) _ rfl ((blk2 rfl).2.1.set _) Tryz.underlying136 rfl (by kernel_rfl)) rfl ?_
 exact ⟨rfl, Grow.set (blk2 rfl).2.2 (Nat.le_succ _) _⟩
set_option maxHeartbeats 1000000 in
theorem header_any' (wide big : Bool) (o a ty ma fl en ph sh sz n1 c1 n2 c2 st : Nat) (A1 A2 : Option Addr) (S3 S4 : Value) (w : World) (h1 : n1 ≤ 16) (h2 : n2 ≤ 64) (h3 : st ≤ 64) :
  Calls Tryz.prog 55 #[.agg #[.bool wide, .bool big, .int .u8 (o : Int), .int .u8 (a : Int), .int .u16 (ty : Int), .int .u16 (ma : Int), .int .u32 (fl : Int), .int .u64 (en : Int), .slice A1 n1 c1, .slice A2 n2 c2, .int .i64 (st : Int)],
   .agg #[.int .u64 (ph : Int), .int .u64 (sh : Int), .int .u64 (sz : Int), S3, S4]] w fun e w' => e = .returned (.agg #[.bool wide, .bool big, .int .u8 (o : Int), .int .u8 (a : Int), .int .u16 (ty : Int), .int .u16 (ma : Int), .int .u64 (en : Int), .int .u64 (ph : Int), .int .u64 (sh : Int), .int .u32 (fl : Int), .int .u16 (n1 : Int), .int .u16 ((if 0 < n2 then n2 + 1 else 0 : Nat) : Int), .int .u16 (st : Int)]) ∧ Grow w w' := by
 have q1 : IntKind.u16.wrap (n1 : Int) = (n1 : Int) := by rw [IntKind.wrap_u16]; omega
 have q2 : IntKind.u16.wrap (st : Int) = (st : Int) := by rw [IntKind.wrap_u16]; omega
 have q3 : IntKind.u16.wrap ((n2 : Int) + 1) = (n2 : Int) + 1 := by rw [IntKind.wrap_u16]; omega
 clear h1 h3
 by_cases h0 : 0 < n2
 ·obtain ⟨R, hR⟩ : ∃ R, (if 0 < n2 then n2 + 1 else 0 : Nat) = R := ⟨_, rfl⟩
  rw [hR]
  rw [if_pos h0] at hR
  have HR := hid hR
  have h0' : decide (0 < (n2 : Int)) = true := decide_eq_true (by omega)
  clear hR
  go_enter Tryz.func55, Tryz.ntmps55
  go_wp2
  refine bodyPost_ret (results_cell_row rfl _ _ (w.heap.size + 1 + 1) _ _ (0, 0) _ rfl (blk4 rfl).2.2.1 Tryz.underlying58 rfl (by kernel_rfl)) rfl ?_
  exact ⟨by rw [← HR.out]; rfl, (blk4 rfl).2.2.2.2⟩
 ·rw [if_neg h0]
  have h0' : decide (0 < (n2 : Int)) = false := decide_eq_false (by omega)
  go_enter Tryz.func55, Tryz.ntmps55
  go_wp2
  refine bodyPost_ret (results_cell_row rfl _ _ (w.heap.size + 1 + 1) _ _ (0, 0) _ rfl (blk4 rfl).2.2.1 Tryz.underlying58 rfl (by kernel_rfl)) rfl ?_
  exact ⟨rfl, (blk4 rfl).2.2.2.2⟩
theorem flHeader_any (m : Md) (h : Good m) (A1 A2 : Option Addr) (n1 c1 n2 c2 : Nat) (S3 S4 : Value) (w : World) (l1 : n1 = m.segs.length) (l2 : n2 = m.secs.length) :
  Calls Tryz.prog 55 #[.agg (mdC m (.slice A1 n1 c1) (.slice A2 n2 c2)), .agg #[.int .u64 (m.phoff : Nat), .int .u64 (m.shoff : Nat), .int .u64 (m.eT : Nat), S3, S4]] w fun e w' => e = .returned m.hd.V ∧ Grow w w' := by
 have hs := h.str
 have e : m.str = ((m.str.toNat : Nat) : Int) := by omega
 have k1 := h.n1
 have k2 := h.n2
 have := header_any' m.wide m.big m.osabi m.abi m.typ m.mach m.flags m.entry m.phoff m.shoff m.eT n1 c1 n2 c2 m.str.toNat A1 A2 S3 S4 w (by omega) (by omega) (by omega)
 rw [← e] at this
 refine Calls.mono this ?_
 rintro en w' ⟨rfl, hg⟩
 refine ⟨?_, hg⟩
 unfold Hd.V Hd.C Md.hd
 simp only []
 rw [u8_of _ h.ok.osabi, u8_of _ h.ok.abi, l1, l2, ← e]
set_option linter.unusedVariables false
theorem put_nil (L : List UInt8) (p : Nat) : put L p [] = L := by
 unfold put
 simp
theorem map_put (L x : List UInt8) (p : Nat) : (put L p x).map byt = (L.map byt).take p ++ x.map byt ++ (L.map byt).drop (p + (x.map byt).length) := by
 unfold put
 simp [List.map_take, List.map_drop]
theorem run_copy_put {P : Program} (W : World) (dT sT ty elem : TypeId) (g n p : Nat) (L x : List UInt8) (A : Option Addr) (m c B : Nat) (t : TypeId)
  (hu : P.underlying dT = some (.slice elem)) (hs : (P.info? elem).map (·.size) = some 1)
  (hb : Blk W g t (L.map byt).toArray) (hn : n = L.length) (hr : RB W B A m c x) (hp : p + x.length ≤ L.length) :
  (Builtin.copy_ #[dT, sT] ty #[.slice (some (cutA ⟨g, 0, none⟩ n p)) (n - p) (n - p), .slice A m c]).run P W = .ok (.int .i64 (m : Int)) (W.setRow g ((put L p x).map byt).toArray) := by
 have hm := hr.len
 rcases A with _ | a
 ·have h0 : m = 0 := by
   rcases Nat.eq_zero_or_pos m with h0 | h0
   ·exact h0
   ·obtain ⟨_, _, e, _⟩ := hr.pos h0
    cases e
  have hx : x = [] := List.eq_nil_of_length_eq_zero (by omega)
  have hc0 : c = 0 ∨ True := .inr trivial
  subst hx
  rw [put_nil, Blk.same hb, h0]
  cases hq : P.info? elem with
  | none => simp [hq] at hs
  | some i => simp [Builtin.copy_, run_underlying hu, Builtin.lenOf, Builtin.firstCells, sizeOf, typeInfo, hq, storeCells, goInt]
 ·have hsrc : ∀ j v, (x.map byt)[j]? = some v → W.cell? (a.add j) = some v := fun j v hj => by
   have hjl : j < x.length := by have := (List.getElem?_eq_some_iff.1 hj).1; simpa using this
   obtain ⟨b, off, e, _, hc⟩ := hr.pos (by omega)
   injection e with e
   subst e
   have e2 : (⟨b, off, none⟩ : Addr).add j = ⟨b, off + j, none⟩ := by unfold Addr.add; split <;> simp_all
   rw [e2, hc j hjl]
   simp [hjl, byt] at hj
   rw [← hj]
  by_cases hpn : n = p
  ·have hx : x = [] := List.eq_nil_of_length_eq_zero (by omega)
   subst hx
   have e1 : cutA ⟨g, 0, none⟩ n p = ⟨g, 0, none⟩ := by unfold cutA; rw [if_pos hpn]
   have := run_copy_row P W dT sT ty elem g 0 (n - p) (n - p) a m c _ t [] hu hs hb (by simp at hm; simp [hm]) (fun j v hj => by simp at hj) (by simp) (fun v hv => by simp at hv)
   rw [e1, this, put_nil, hm]
   congr 1
  ·have e1 : cutA ⟨g, 0, none⟩ n p = ⟨g, p, none⟩ := by
    unfold cutA Addr.add
    rw [if_neg hpn]
    split <;> simp_all
   have := run_copy_row P W dT sT ty elem g p (n - p) (n - p) a m c _ t (x.map byt) hu hs hb (by rw [List.length_map, show m.min (n - p) = min m (n - p) from rfl, Nat.min_def]; split <;> omega) hsrc (by simp; omega) (byt_oneCell x)
   rw [e1, this, map_put]
   congr 1
   rw [hm]; simp [goInt]
theorem run_copy_put0 {P : Program} (W : World) (dT sT ty elem : TypeId) (g n : Nat) (L x : List UInt8) (A : Option Addr) (m c B : Nat) (t : TypeId)
  (hu : P.underlying dT = some (.slice elem)) (hs : (P.info? elem).map (·.size) = some 1)
  (hb : Blk W g t (L.map byt).toArray) (hn : n = L.length) (hr : RB W B A m c x) (hp : x.length ≤ L.length) :
  (Builtin.copy_ #[dT, sT] ty #[.slice (some ⟨g, 0, none⟩) n n, .slice A m c]).run P W = .ok (.int .i64 (m : Int)) (W.setRow g ((put L 0 x).map byt).toArray) := by
 have := run_copy_put (P := P) W dT sT ty elem g n 0 L x A m c B t hu hs hb hn hr (by omega)
 rw [cutA_zero] at this
 exact this
theorem made_zeros (n : Nat) : madeCells #[.int .u8 0] n = ((List.replicate n (0 : UInt8)).map byt).toArray := by
 apply Array.ext
 ·simp [madeCells]
 ·intro i h1 h2
  simp [madeCells, byt, Nat.mod_one]
structure WS (w W : World) (gm gp gf gB : Nat) (tm tp tf tB : TypeId) (cm cp cf : Array Value) (L : List UInt8) : Prop where
 m : Blk W gm tm cm
 p : Blk W gp tp cp
 f : Blk W gf tf cf
 b : Blk W gB tB (L.map byt).toArray
 w : Below w.heap.size w W
structure WA (w : World) (gm gp gf gB : Nat) : Prop where
 m : gm ≠ gB
 p : gp ≠ gB
 f : gf ≠ gB
 w : w.heap.size ≤ gB
section
variable {w W W' : World} {gm gp gf gB : Nat} {tm tp tf tB : TypeId} {cm cp cf : Array Value} {L : List UInt8}
theorem WS.grow (h : WS w W gm gp gf gB tm tp tf tB cm cp cf L) (hg : Grow W W') : WS w W' gm gp gf gB tm tp tf tB cm cp cf L :=
 ⟨h.m.grow hg, h.p.grow hg, h.f.grow hg, h.b.grow hg, h.w.trans (Below.mono hg h.w.size)⟩
theorem WS.drew (h : WS w W gm gp gf gB tm tp tf tB cm cp cf L) : WS w W.drew gm gp gf gB tm tp tf tB cm cp cf L := h.grow (Grow.of_drew _)
theorem WS.set (h : WS w W gm gp gf gB tm tp tf tB cm cp cf L) (a : WA w gm gp gf gB) (L' : List UInt8) : WS w (W.setRow gB (L'.map byt).toArray) gm gp gf gB tm tp tf tB cm cp cf L' :=
 ⟨h.m.other a.m _, h.p.other a.p _, h.f.other a.f _, h.b.set _, ⟨h.w.os, h.w.tape, h.w.output, by simpa using h.w.size, fun k hk => (setRow_other W gB k _ (by have := a.w; omega)).trans (h.w.block k hk)⟩⟩
theorem WS.cell (h : WS w W gm gp gf gB tm tp tf tB cm cp cf L) (a : WA w gm gp gf gB) {V : World} (hb : Bar gB W V) {b o : Nat} {v : Value} (hlt : b < w.heap.size) (hc : w.cell? ⟨b, o, none⟩ = some v) : V.cell? ⟨b, o, none⟩ = some v := by
 have h1 : W.cell? ⟨b, o, none⟩ = some v := (Below.cell h.w hlt).trans hc
 have hne : b ≠ gB := by have := a.w; omega
 have h2 : b < W.heap.size := Nat.lt_of_lt_of_le hlt h.w.size
 have h3 : V.heap[b]? = W.heap[b]? := hb.2 b h2 hne
 rw [← h1]
 unfold World.cell?
 simp only [h3]
end
end Go.Proofs.YtfglppjilcaafaaGreatDoor
