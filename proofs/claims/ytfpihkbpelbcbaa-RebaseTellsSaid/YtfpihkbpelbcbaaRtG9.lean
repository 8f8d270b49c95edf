/-
  Several texts in one: The contracts of rebase's small functions; What stays where bytes of the call's own are turned; the contract of rebase; The contracts of the functions that wraps and isAmong hand on, and of slices.
-/
import Derived.Test.YtfpihkbpelbcbaaRtG4
import Derived.Test.YtfpihkbpelbcbaaRtG3
import Derived.Test.YtfpihkbpelbcbaaRtG6
import Derived.Test.YtfpihkbpelbcbaaRtG1
import Derived.Test.YtfpihkbpelbcbaaRtG8
import Derived.Test.YtfpihkbpelbcbaaRtG5
namespace Go.Proofs.Ytfpihkbpelbcbaa
open Go.Lib (hid)
open Go.RowKit
set_option maxRecDepth 100000
set_option linter.unusedVariables false
theorem rbLast_any (wide big : Bool) (w : World) : Calls Try.prog 56 #[.agg #[.bool wide, .bool big]] w fun e w' => e = .returned (.int .u64 (lastA wide : Nat)) ∧ Grow w w' := by
 cases wide
 all_goals
  go_enter Try.func56, Try.ntmps56
  go_wp2
  go_ret
  exact ⟨rfl, Grow.of_alloc _ _⟩
theorem rbWidth_any (wide big : Bool) (w : World) : Calls Try.prog 69 #[.agg #[.bool wide, .bool big]] w fun e w' => e = .returned (.int .i64 (wdN wide : Nat)) ∧ Grow w w' := by
 cases wide
 all_goals
  go_enter Try.func69, Try.ntmps69
  go_wp2
  go_ret
  exact ⟨rfl, Grow.of_alloc _ _⟩
theorem rbLoaded_any (s : Se) (ok : s.Ok) (S : Value) (w : World) : Calls Try.prog 48 #[.agg (seC s S)] w fun e w' => e = .returned (.bool s.isIn) ∧ Grow w w' := by
 have q := and_two s.flags ok.flags
 have E := hid (show s.isIn = decide (s.flags / 2 % 2 = 1) from rfl)
 unfold seC
 clear ok
 generalize s.isIn = R at E ⊢
 generalize s.flags = F at *
 rcases Nat.mod_two_eq_zero_or_one (F / 2) with hF | hF
 all_goals
  rw [hF] at q E
  clear hF
  go_enter Try.func48, Try.ntmps48
  go_wp2
  go_ret
  exact ⟨ret_bool E.out.symm, Grow.of_alloc _ _⟩
theorem rbRel_any (r : Re) (mach : Nat) (w : World) : Calls Try.prog 45 #[.agg r.C, .int .u16 (mach : Int)] w fun e w' => e = .returned (.bool (isRel mach r.ty)) ∧ Grow w w' := by
 unfold Re.C
 have E := hid (show isRel mach r.ty = if mach = 183 then decide (r.ty = 1027) else (decide (mach = 3) || decide (mach = 62)) && decide (r.ty = 8) from rfl)
 generalize isRel mach r.ty = R at E ⊢
 generalize r.ty = t at E ⊢
 by_cases h3 : mach = 3
 ·subst h3
  have E1 := hid (show R = decide (t = 8) by rw [E.out]; simp)
  go_enter Try.func45, Try.ntmps45
  go_wp2
  go_ret
  exact ⟨ret_bool (by rw [E1.out, Bool.eq_iff_iff]; simp; omega), Grow.of_alloc _ _⟩
 ·by_cases h62 : mach = 62
  ·subst h62
   have E1 := hid (show R = decide (t = 8) by rw [E.out]; simp)
   go_enter Try.func45, Try.ntmps45
   go_wp2
   go_ret
   exact ⟨ret_bool (by rw [E1.out, Bool.eq_iff_iff]; simp; omega), Grow.of_alloc _ _⟩
  ·by_cases h183 : mach = 183
   ·subst h183
    have E1 := hid (show R = decide (t = 1027) by rw [E.out]; simp)
    go_enter Try.func45, Try.ntmps45
    go_wp2
    go_ret
    exact ⟨ret_bool (by rw [E1.out, Bool.eq_iff_iff]; simp; omega), Grow.of_alloc _ _⟩
   ·have E1 := hid (show R = false by rw [E.out, if_neg h183]; simp [h3, h62])
    have e3 : ((mach : Int) == 3) = false := by simp; omega
    have e62 : ((mach : Int) == 62) = false := by simp; omega
    have e183 : ((mach : Int) == 183) = false := by simp; omega
    clear h3 h62 h183 E
    go_enter Try.func45, Try.ntmps45
    go_wp2
    go_ret
    exact ⟨ret_bool E1.out.symm, Grow.of_alloc _ _⟩
set_option maxHeartbeats 1000000 in
theorem rbAdr_any (t : Nat) (w : World) : Calls Try.prog 72 #[.int .u64 (t : Int)] w fun e w' => e = .returned (.bool (isAdT t)) ∧ w = w' := by
 cases h : isAdT t with
 | true =>
  unfold isAdT adTags at h
  simp only [List.any_cons, List.any_nil, Bool.or_false, Bool.or_eq_true, decide_eq_true_eq] at h
  rcases h with h | h | h | h | h | h | h | h | h | h | h | h | h | h | h | h
  all_goals
   subst h
   go_enter Try.func72, Try.ntmps72
   go_wp2
   go_ret
   exact ⟨rfl, rfl⟩
 | false =>
  unfold isAdT adTags at h
  simp only [List.any_cons, List.any_nil, Bool.or_false, Bool.or_eq_false_iff, decide_eq_false_iff_not] at h
  obtain ⟨h0, h1, h2, h3, h4, h5, h6, h7, h8, h9, h10, h11, h12, h13, h14, h15⟩ := h
  have e0 : ((t : Int) == 3) = false := by simp; omega
  have e1 : ((t : Int) == 4) = false := by simp; omega
  have e2 : ((t : Int) == 5) = false := by simp; omega
  have e3 : ((t : Int) == 6) = false := by simp; omega
  have e4 : ((t : Int) == 7) = false := by simp; omega
  have e5 : ((t : Int) == 12) = false := by simp; omega
  have e6 : ((t : Int) == 13) = false := by simp; omega
  have e7 : ((t : Int) == 17) = false := by simp; omega
  have e8 : ((t : Int) == 23) = false := by simp; omega
  have e9 : ((t : Int) == 25) = false := by simp; omega
  have e10 : ((t : Int) == 26) = false := by simp; omega
  have e11 : ((t : Int) == 32) = false := by simp; omega
  have e12 : ((t : Int) == 1879047925) = false := by simp; omega
  have e13 : ((t : Int) == 1879048176) = false := by simp; omega
  have e14 : ((t : Int) == 1879048188) = false := by simp; omega
  have e15 : ((t : Int) == 1879048190) = false := by simp; omega
  clear h0 h1 h2 h3 h4 h5 h6 h7 h8 h9 h10 h11 h12 h13 h14 h15
  go_enter Try.func72, Try.ntmps72
  go_wp2
  go_ret
  exact ⟨rfl, rfl⟩
theorem lastA_le (wide : Bool) : lastA wide ≤ 18446744073709551615 := by cases wide <;> decide
set_option maxHeartbeats 1000000 in
theorem rbSegW_any (s : Sg) (ok : s.Ok) (S : Value) (wide : Bool) (d : Nat) (w : World) (hd : d < 18446744073709551616) :
  Calls Try.prog 60 #[.agg (sgC s S), .int .u64 (d : Int), .int .u64 (lastA wide : Nat)] w fun e w' => e = .returned (.bool (s.over wide d)) ∧ Grow w w' := by
 have hv := ok.vaddr
 have hm := ok.memsz
 have hL := lastA_le wide
 have E := hid (show s.over wide d = (!decide (s.vaddr + d ≤ lastA wide) || (decide (0 < s.memsz) && !decide (s.vaddr + d + (s.memsz - 1) ≤ lastA wide))) from rfl)
 unfold sgC
 clear ok
 generalize s.over wide d = R at E ⊢
 generalize s.vaddr = v at *
 generalize s.memsz = z at *
 generalize lastA wide = L at *
 by_cases h1 : v + d ≤ L
 ·have E1 : Hid (wthn (v : Int) (d : Int) (L : Nat) = true) := hid (decide_eq_true (by omega))
  have z1 : IntKind.u64.wrap ((v : Int) + (d : Int)) = ((v + d : Nat) : Int) := by rw [IntKind.wrap_u64]; omega
  rcases Nat.eq_zero_or_pos z with h0 | h0
  ·subst h0
   have E2 := hid (show R = false by rw [E.out]; simp [h1])
   clear h1
   go_enter Try.func60, Try.ntmps60
   go_wp2_with (go_at_call 57; refine (within_any _ _ _ _ (by omega) (by omega) (by omega)).mono ?_; rintro e w' ⟨rfl, rfl⟩; rw [E1.out])
   go_ret
   exact ⟨ret_bool E2.out.symm, Grow.of_alloc _ _⟩
  ·have d1 : decide ((0 : Int) < (z : Int)) = true := decide_eq_true (by omega)
   have z2 : IntKind.u64.wrap ((z : Int) - 1) = ((z - 1 : Nat) : Int) := by rw [IntKind.wrap_u64]; omega
   have E2 := hid (show R = !decide (v + d + (z - 1) ≤ L) by rw [E.out]; simp [h1, h0])
   have E3 : Hid (wthn ((v + d : Nat) : Int) ((z - 1 : Nat) : Int) (L : Nat) = decide (v + d + (z - 1) ≤ L)) := hid (by unfold wthn; rw [Bool.eq_iff_iff, decide_eq_true_iff, decide_eq_true_iff]; omega)
   clear h1
   generalize v + d = vd at *
   generalize z - 1 = zz at *
   go_enter Try.func60, Try.ntmps60
   go_wp2_with fail
   refine (within_any (v : Int) (d : Int) (L : Int) _ (by omega) (by omega) (by omega)).mono ?_
   rintro e w' ⟨rfl, rfl⟩
   rw [E1.out]
   go_wp2_with fail
   refine (within_any (vd : Int) (zz : Int) (L : Int) _ (by omega) (by omega) (by omega)).mono ?_
   rintro e w' ⟨rfl, rfl⟩
   rw [E3.out]
   go_wp2
   go_ret
   exact ⟨ret_bool E2.out.symm, Grow.of_alloc _ _⟩
 ·have E1 : Hid (wthn (v : Int) (d : Int) (L : Nat) = false) := hid (decide_eq_false (by omega))
  have E2 := hid (show R = true by rw [E.out]; simp [h1])
  clear h1
  go_enter Try.func60, Try.ntmps60
  go_wp2_with (go_at_call 57; refine (within_any _ _ _ _ (by omega) (by omega) (by omega)).mono ?_; rintro e w' ⟨rfl, rfl⟩; rw [E1.out])
  go_ret
  exact ⟨ret_bool E2.out.symm, Grow.of_alloc _ _⟩
set_option maxRecDepth 100000
set_option linter.unusedVariables false
structure Turn (B : Nat) (w W : World) : Prop where
 os : W.os = w.os
 tape : W.tape = w.tape
 output : W.output = w.output
 size : w.heap.size ≤ W.heap.size
 low : ∀ k, k < w.heap.size → k < B → W.heap[k]? = w.heap[k]?
 kind : ∀ k, k < w.heap.size → (∀ cs, w.heap[k]? ≠ some (.cells cs 5 (0, 0))) → W.heap[k]? = w.heap[k]?
theorem leap_turn (B : Nat) : Leap (Turn B) := ⟨fun w => ⟨rfl, rfl, rfl, Nat.le_refl _, fun _ _ _ => rfl, fun _ _ _ => rfl⟩, fun a b c h k =>
 ⟨k.os.trans h.os, k.tape.trans h.tape, k.output.trans h.output, Nat.le_trans h.size k.size, fun i hi hB => (k.low i (Nat.lt_of_lt_of_le hi h.size) hB).trans (h.low i hi hB),
  fun i hi hk => by
   have e := h.kind i hi hk
   exact (k.kind i (Nat.lt_of_lt_of_le hi h.size) (by rw [e]; exact hk)).trans e⟩⟩
section
variable {B : Nat} {w w' W : World}
theorem Turn.refl : Turn B w w := (leap_turn B).refl w
theorem Turn.trans (h : Turn B w w') (k : Turn B w' W) : Turn B w W := (leap_turn B).trans _ _ _ h k
theorem Turn.of_grow (h : Grow w W) : Turn B w W := ⟨h.os, h.tape, h.output, h.size, fun k hk _ => h.block k hk, fun k hk _ => h.block k hk⟩
theorem Turn.of_bytes {g : Nat} (h : w.grownBy W (some g)) (hB : B ≤ g) (hb : ∃ cs, w.heap[g]? = some (.cells cs 5 (0, 0))) : Turn B w W :=
 ⟨h.os, h.tape, h.output, h.size, fun k hk hkB => h.block k hk (by intro e; injection e with e; omega), fun k hk hn => h.block k hk (by
  intro e
  injection e with e
  subst e
  obtain ⟨cs, hcs⟩ := hb
  exact hn cs hcs)⟩
theorem Turn.grow {w0 : World} (h : Turn B w W) (h0 : Grow w0 w) (hB : w0.heap.size ≤ B) : Grow w0 W :=
 ⟨h.os.trans h0.os, h.tape.trans h0.tape, h.output.trans h0.output, Nat.le_trans h0.size h.size, fun k hk => (h.low k (Nat.lt_of_lt_of_le hk h0.size) (by omega)).trans (h0.block k hk)⟩
theorem Blk.turn {g : Nat} {t : TypeId} {cs : Array Value} (h : Blk w g t cs) (ht : Turn B w W) (hu : t ≠ 5) : Blk W g t cs := by
 unfold Blk at *
 rw [ht.kind g (Blk.lt h) ?_]
 ·exact h
 ·intro cs' he
  rw [h] at he
  injection he with he
  injection he with _ he
  exact hu he
theorem ZO.turn {base : Nat} {e : TypeId} {z : Nat} {A : Option Addr} {n c : Nat} {l : List (Array Value)} (h : ZO w base e z A n c l) (ht : Turn B w W) (hu : e ≠ 5) : ZO W base e z A n c l := by
 refine ⟨⟨h.1.1, ?_⟩, h.2⟩
 rcases h.1.2 with h0 | ⟨g, cap, cur, hv, hg, hh, r⟩
 ·exact .inl h0
 ·exact .inr ⟨g, cap, cur, hv, hg, Blk.turn (show Blk w g e cur from hh) ht hu, r⟩
end
theorem OB.blk {w : World} {base : Nat} {e : TypeId} {g n c : Nat} {l : List UInt8} (h : OB w base e (some ⟨g, 0, none⟩) n c l) : ∃ cs, w.heap[g]? = some (.cells cs e (0, 0)) := by
 rcases h.2 with ⟨hv, _⟩ | ⟨g', cap, cur, hv, hb, hh, _⟩
 ·cases hv
 ·injection hv with e1 _ _
  injection e1 with e1
  injection e1 with e1
  subst e1
  exact ⟨cur, hh⟩
set_option maxHeartbeats 2000000 in
theorem rbPut_any (A : Option Addr) (n c : Nat) (l : List UInt8) (p v : Nat) (wide big : Bool) (B : Nat) (w : World) (h : OB w B 5 A n c l) (hp : p + wdN wide ≤ n) :
  Calls Try.prog 71 #[.slice A n c, .int .u64 (p : Int), .int .u64 (v : Int), .agg #[.bool wide, .bool big]] w fun e w' => e = .returned (.tuple #[]) ∧ ∃ g, A = some ⟨g, 0, none⟩ ∧ B ≤ g ∧ w.grownBy w' (some g) ∧ OB w' B 5 A n c (putIn l p (putB v (wdN wide) big)) := by
 have HWd := hid (fun W => rbWidth_any wide big W)
 have hpl : putL (v : Int) ((wdN wide : Nat) : Int) big = putB v (wdN wide) big := by
  unfold putL
  rw [wdN_wid, if_pos rfl]
  simp
 have HPt := hid (fun W => put_any (v : Int) ((wdN wide : Nat) : Int) big W (by omega))
 rw [hpl] at HPt
 have hbl : (putB v (wdN wide) big).length = wdN wide := length_putB ..
 have h0 := wdN_pos wide
 obtain ⟨g, rfl, hBg⟩ : ∃ g, A = some ⟨g, 0, none⟩ ∧ B ≤ g := by
  rcases h.2 with ⟨hv, hn⟩ | ⟨g, cap, cur, hv, hb, _⟩
  ·omega
  ·injection hv with e1 _ _
   exact ⟨g, e1, hb⟩
 have HO := hid h
 have hcap := h.rb.cap
 have hmax := h.rb.max
 unfold maxLen at hmax
 have hcut : ∀ W : World, (Instr.slice 44 (.slice (some ⟨g, 0, none⟩) n c) (some (.int .u64 (p : Int))) none none).run Try.prog W = .ok (.slice (some ⟨g, p, none⟩) (n - p) (c - p)) W := fun W => by
  have := run_cut_l (P := Try.prog) 44 Try.underlying44 (fun W => by kernel_rfl) ⟨g, 0, none⟩ n c .u64 p (by omega) W
  rw [this]
  congr 2
  unfold cutA Addr.add
  rw [if_neg (by omega)]
  split <;> simp_all
 have HP := hid hp
 have H0 := hid h0
 unfold Made at HPt
 generalize putB v (wdN wide) big = x at *
 clear hpl h0 h hp hcap hmax
 generalize wdN wide = wd at *
 rw [hbl] at HPt
 have HBl := hid hbl
 clear hbl
 go_enter Try.func71, Try.ntmps71
 go_wp2_with fail
 generalize hW : World.alloc _ _ = W0
 obtain ⟨b1, hg0⟩ := blk1 hW
 clear hW
 have HB1 := hid b1.drew
 have HG1 : Hid (Grow w W0.drew) := hid (hg0.trans (Grow.of_drew _))
 have HO1 := hid (HO.out.keep HG1.out)
 clear b1 hg0 HO
 refine wp_region_leap (leap_turn B) [(0, true), (1, true), (2, true), (3, true), (4, true), (6, true), (7, true), (5, false), (8, false), (9, false)] (by kernel_rfl) (by kernel_rfl) (by kernel_rfl) ?_
 generalize W0.drew = v0 at *
 generalize w.heap.size = gf at HB1 ⊢
 have q0 : ∀ W, Turn B v0 W → _ := fun W hW => (HB1.out.turn hW (by decide)).c2
 repeat (refine chain_take rfl (by rfl) ?_ (fun W hG => ?_) ?_; rotate_left; (obtain ⟨u0, u1⟩ := q0 W hG; go_simp; rfl); simp only [Act.put, List.setIfInBounds_toArray, List.set_cons_zero, List.set_cons_succ])
 clear q0 hcut
 refine chain_only rfl (by rfl) (fun K hK => ?_)
 go_simp
 refine (HWd.out v0).mono ?_
 rintro e v1 ⟨rfl, hg⟩
 refine hK _ _ (Turn.of_grow hg) ?_
 clear hK K
 have HO2 := hid (HO1.out.keep hg)
 have HG2 : Hid (Grow w v1) := hid (HG1.out.trans hg)
 clear hg HB1 HG1 HO1 HWd
 refine chain_only rfl (by rfl) (fun K hK => ?_)
 go_simp
 refine (HPt.out v1).mono ?_
 rintro e v2 ⟨A5, c5, rfl, ho, hg⟩
 refine hK _ _ (Turn.of_grow hg) ?_
 clear hK K
 have HO3 := hid (HO2.out.keep hg)
 have HG3 : Hid (Grow w v2) := hid (HG2.out.trans hg)
 obtain ⟨g', cur', e1, -, -, hrun, hob⟩ := HO3.out.copyTo ho.rb (p := p) HP.out H0.out
 injection e1 with e1
 injection e1 with e1
 subst e1
 have hcp := hrun Try.prog 44 44 3 5 Try.underlying44 (by kernel_rfl)
 have HOB := hid hob
 have HGr : Hid (v2.grownBy (v2.setRow g cur') (some g)) := hid ⟨rfl, rfl, rfl, by simp, fun j _ hj => setRow_other v2 g j cur' (fun e => hj (by rw [e]))⟩
 have HBk := hid HO3.out.blk
 clear hrun hob hg ho HO2 HG2 HPt HO3
 refine chain_only rfl (by rfl) (fun K hK => ?_)
 go_simp
 refine hK _ _ (Turn.of_bytes HGr.out hBg HBk.out) ?_
 clear hK K hcp
 refine chain_done ?_
 have HFin : Hid (w.grownBy (v2.setRow g cur') (some g)) := hid ⟨HGr.out.os.trans HG3.out.os, HGr.out.tape.trans HG3.out.tape, HGr.out.output.trans HG3.out.output, Nat.le_trans HG3.out.size HGr.out.size, fun k hk hne => (HGr.out.block k (Nat.lt_of_lt_of_le hk HG3.out.size) hne).trans (HG3.out.block k hk)⟩
 have HBg := hid hBg
 clear hBg
 go_wp2
 go_end0
 first
 | exact ⟨rfl, g, rfl, HBg.out, HFin.out, HOB.out⟩
 | exact ⟨rfl, HBg.out, HFin.out, HOB.out⟩
set_option maxRecDepth 100000
set_option linter.unusedVariables false
def Hit {α : Type} (l : List α) (q : α → Bool) (i : Int) : Prop := decide (0 ≤ i) = l.any q
theorem Hit.no {α : Type} {l : List α} {q : α → Bool} (h : ∀ a ∈ l, q a = false) : Hit l q (-1) := by
 unfold Hit
 rw [List.any_eq_false.2 (fun a ha => by rw [h a ha]; decide)]
 rfl
theorem Hit.at {α : Type} {l : List α} {q : α → Bool} {k : Nat} {a : α} (hk : a ∈ l) (h : q a = true) : Hit l q (k : Int) := by
 unfold Hit
 rw [List.any_eq_true.2 ⟨a, hk, h⟩]
 simp
set_option maxHeartbeats 1000000 in
theorem rbWr1_any (s : Sg) (ok : s.Ok) (S : Value) (wide : Bool) (d g1 g2 : Nat) (w : World) (hd : d < 18446744073709551616) (h1 : w.cell? ⟨g1, 0, none⟩ = some (.int .u64 (d : Int))) (h2 : w.cell? ⟨g2, 0, none⟩ = some (.int .u64 (lastA wide : Nat))) (b1 : g1 < w.heap.size) (b2 : g2 < w.heap.size) :
  Calls Try.prog 59 #[.agg (sgC s S), .pointer (some ⟨g1, 0, none⟩), .pointer (some ⟨g2, 0, none⟩)] w fun e w' => e = .returned (.bool (s.over wide d)) ∧ Grow w w' := by
 have HS := hid (fun W => rbSegW_any s ok S wide d W hd)
 have HB1 := hid b1
 have HB2 := hid b2
 clear b1 b2 ok
 generalize s.over wide d = R at HS ⊢
 generalize lastA wide = L at *
 unfold sgC at *
 generalize s.typ = x0 at *
 generalize s.flags = x1 at *
 generalize s.vaddr = x2 at *
 generalize s.paddr = x3 at *
 generalize s.memsz = x4 at *
 generalize s.align = x5 at *
 generalize s.pl.inn = x6 at *
 generalize s.pl.off = x7 at *
 generalize s.pl.size = x8 at *
 have c1 : ∀ o, (w.alloc o).cell? ⟨g1, 0, none⟩ = some (.int .u64 (d : Int)) := fun o => (Below.cell (Grow.of_alloc w o) HB1.out).trans h1
 have c2 : ∀ o, (w.alloc o).cell? ⟨g2, 0, none⟩ = some (.int .u64 (L : Nat)) := fun o => (Below.cell (Grow.of_alloc w o) HB2.out).trans h2
 clear h1 h2
 go_enter Try.func59, Try.ntmps59
 go_wp2_with fail
 refine (HS.out _).mono ?_
 rintro e w' ⟨rfl, hg⟩
 have HG := hid hg
 clear hg c1 c2
 go_wp2
 go_ret
 exact ⟨rfl, (Grow.of_alloc _ _).trans HG.out⟩
set_option maxHeartbeats 1000000 in
theorem rbWr2_any (s : Se) (ok : s.Ok) (S : Value) (wide : Bool) (d g1 g2 : Nat) (w : World) (hd : d < 18446744073709551616) (h1 : w.cell? ⟨g1, 0, none⟩ = some (.int .u64 (d : Int))) (h2 : w.cell? ⟨g2, 0, none⟩ = some (.int .u64 (lastA wide : Nat))) (b1 : g1 < w.heap.size) (b2 : g2 < w.heap.size) :
  Calls Try.prog 62 #[.agg (seC s S), .pointer (some ⟨g1, 0, none⟩), .pointer (some ⟨g2, 0, none⟩)] w fun e w' => e = .returned (.bool (s.over wide d)) ∧ Grow w w' := by
 have HS := hid (fun W => rbLoaded_any s ok S W)
 have HB1 := hid b1
 have HB2 := hid b2
 have hL := lastA_le wide
 have ha := ok.addr
 have E := hid (show s.over wide d = (s.isIn && !decide (s.addr + d ≤ lastA wide)) from rfl)
 clear b1 b2 ok
 generalize s.over wide d = R at E ⊢
 generalize s.isIn = I at HS E
 generalize lastA wide = L at *
 unfold seC at *
 generalize s.name = x0 at *
 generalize s.typ = x1 at *
 generalize s.flags = x2 at *
 generalize s.addr = x3 at *
 generalize s.size = x4 at *
 generalize s.link = x5 at *
 generalize s.info = x6 at *
 generalize s.align = x7 at *
 generalize s.entsize = x8 at *
 generalize s.pl.inn = x9 at *
 generalize s.pl.off = x10 at *
 generalize s.pl.size = x11 at *
 go_enter Try.func62, Try.ntmps62
 go_wp2_with fail
 generalize hW : World.alloc _ _ = W0
 obtain ⟨bb, hg0⟩ := blk1 hW
 clear hW
 refine (HS.out _).mono ?_
 rintro e w' ⟨rfl, hg⟩
 have v3 := (bb.grow hg).at 3
 simp at v3
 have c1 : w'.cell? ⟨g1, 0, none⟩ = some (.int .u64 (d : Int)) := (Below.cell (hg0.trans hg) HB1.out).trans h1
 have c2 : w'.cell? ⟨g2, 0, none⟩ = some (.int .u64 (L : Nat)) := (Below.cell (hg0.trans hg) HB2.out).trans h2
 have HG : Hid (Grow w w') := hid (hg0.trans hg)
 generalize w.heap.size = gb at *
 clear hg hg0 bb h1 h2 HB1 HB2 HS
 cases I with
 | false =>
  have E2 := hid (show R = false by rw [E.out]; rfl)
  go_wp2
  go_ret
  exact ⟨ret_bool E2.out.symm, HG.out⟩
 | true =>
  have E2 := hid (show R = !wthn (x3 : Int) (d : Int) (L : Int) by rw [E.out, Bool.true_and]; congr 1; unfold wthn; rw [Bool.eq_iff_iff, decide_eq_true_iff, decide_eq_true_iff]; omega)
  go_wp2_with fail
  refine (within_any (x3 : Int) (d : Int) (L : Int) _ (by omega) (by omega) (by omega)).mono ?_
  rintro e w' ⟨rfl, rfl⟩
  generalize wthn (x3 : Int) (d : Int) (L : Int) = T at *
  go_wp2
  go_ret
  exact ⟨ret_bool E2.out.symm, HG.out⟩
set_option maxHeartbeats 1000000 in
theorem rbAm1_any (s : Sg) (ok : s.Ok) (S : Value) (a g1 : Nat) (w : World) (ha : a < 18446744073709551616) (h1 : w.cell? ⟨g1, 0, none⟩ = some (.int .u64 (a : Int))) (b1 : g1 < w.heap.size) :
  Calls Try.prog 89 #[.agg (sgC s S), .pointer (some ⟨g1, 0, none⟩)] w fun e w' => e = .returned (.bool (s.inMem a)) ∧ Grow w w' := by
 have HB1 := hid b1
 have hv := ok.vaddr
 have E := hid (show s.inMem a = (decide (s.typ = 1) && (decide (s.vaddr ≤ a) && decide (a - s.vaddr < s.memsz))) from rfl)
 clear b1 ok
 generalize s.inMem a = R at E ⊢
 unfold sgC at *
 generalize s.typ = x0 at *
 generalize s.flags = x1 at *
 generalize s.vaddr = x2 at *
 generalize s.paddr = x3 at *
 generalize s.memsz = x4 at *
 generalize s.align = x5 at *
 generalize s.pl.inn = x6 at *
 generalize s.pl.off = x7 at *
 generalize s.pl.size = x8 at *
 have c1 : ∀ o, (w.alloc o).cell? ⟨g1, 0, none⟩ = some (.int .u64 (a : Int)) := fun o => (Below.cell (Grow.of_alloc w o) HB1.out).trans h1
 clear h1 HB1
 by_cases h0 : x0 = 1
 ·have e0 : ((x0 : Int) == 1) = true := by simp; omega
  by_cases h2 : x2 ≤ a
  ·have e2 : decide ((x2 : Int) ≤ (a : Int)) = true := decide_eq_true (by omega)
   have e3 : decide (x2 ≤ a) = true := decide_eq_true h2
   have z1 : IntKind.u64.wrap ((a : Int) - (x2 : Int)) = ((a - x2 : Nat) : Int) := by rw [IntKind.wrap_u64]; omega
   have E2 := hid (show R = decide (((a - x2 : Nat) : Int) < (x4 : Int)) by rw [E.out, Bool.eq_iff_iff]; simp [h0, h2])
   clear h0 h2 E
   generalize a - x2 = ax at *
   go_enter Try.func89, Try.ntmps89
   go_wp2
   go_ret
   exact ⟨ret_bool (E2.out.trans (by simp)).symm, Grow.of_alloc _ _⟩
  ·have e2 : decide ((x2 : Int) ≤ (a : Int)) = false := decide_eq_false (by omega)
   have e3 : decide (x2 ≤ a) = false := decide_eq_false h2
   have E2 := hid (show R = false by rw [E.out]; simp [h2])
   clear h0 h2 E
   go_enter Try.func89, Try.ntmps89
   go_wp2
   go_ret
   exact ⟨ret_bool E2.out.symm, Grow.of_alloc _ _⟩
 ·have e0 : ((x0 : Int) == 1) = false := by simp; omega
  have E2 := hid (show R = false by rw [E.out]; simp [h0])
  clear h0 E
  go_enter Try.func89, Try.ntmps89
  go_wp2
  go_ret
  exact ⟨ret_bool E2.out.symm, Grow.of_alloc _ _⟩
set_option maxHeartbeats 1000000 in
theorem idxWr1 (A : Option Addr) (n c : Nat) (l : List Sg) (hok : ∀ s ∈ l, s.Ok) (wide : Bool) (d g1 g2 : Nat) (w : World) (h : ZR sgK w w.heap.size A n c l) (hd : d < 18446744073709551616) (h1 : w.cell? ⟨g1, 0, none⟩ = some (.int .u64 (d : Int))) (h2 : w.cell? ⟨g2, 0, none⟩ = some (.int .u64 (lastA wide : Nat))) (b1 : g1 < w.heap.size) (b2 : g2 < w.heap.size) :
  Calls Try.prog 78 #[.slice A n c, .func (.func 59) #[] #[.pointer (some ⟨g1, 0, none⟩), .pointer (some ⟨g2, 0, none⟩)]] w fun e w' => ∃ i : Int, e = .returned (.int .i64 i) ∧ Hit l (fun s => s.over wide d) i ∧ Grow w w' := by
 have HS := hid h
 have HL := hid h.len
 have HV0 := hid (fun (s : Sg) (hs : s ∈ l) (S : Value) (W : World) (hW : Grow w W) => rbWr1_any s (hok s hs) S wide d g1 g2 W hd ((Below.cell hW b1).trans h1) ((Below.cell hW b2).trans h2) (Nat.lt_of_lt_of_le b1 hW.size) (Nat.lt_of_lt_of_le b2 hW.size))
 have hcc := h.cap
 have hcm := h.max
 unfold maxLen at hcm
 clear h h1 h2 b1 b2 hd hok
 generalize hq : (fun s : Sg => s.over wide d) = q
 have HQ : Hid (∀ s, (s.over wide d) = q s) := hid fun s => by rw [← hq]
 clear hq
 go_enter Try.func78, Try.ntmps78
 go_wp2_with fail
 go_loopw [8] (fun i wr => ∃ k : Nat, k ≤ n ∧ i = .int .i64 k ∧ Hid (∀ s ∈ l.take k, q s = false) ∧ Grow w wr) (fun i _ => n - (intOf i).toNat)
 case atStart => exact ⟨0, Nat.zero_le _, rfl, hid fun v h => absurd h (by simp), Grow.refl _⟩
 case round =>
  obtain ⟨k, hk, rfl, HK, hg⟩ := hrel
  have HG := hid hg
  clear hg
  by_cases hlt : k < n
  ·obtain ⟨b, off, rfl, hb⟩ := HS.out.pos (by omega)
   have hkl : k < l.length := by rw [← HL.out]; exact hlt
   obtain ⟨Ak, nk, ck, -, hcell, gk⟩ := HS.out.at hkl
   have hcell' : ∀ i v, (sgC l[k] (.slice Ak nk ck))[i]? = some v → wr.cell? ⟨b, off + k * 10 + i, none⟩ = some v := fun i v hv => (Below.cell HG.out hb).trans (hcell i v hv)
   have HV := hid (HV0.out l[k] (List.getElem_mem hkl) (.slice Ak nk ck) wr HG.out)
   have HM := hid (List.getElem_mem hkl)
   have HT := hid (takeS l k hkl)
   have HQk := hid (HQ.out l[k])
   unfold sgC at hcell' HV
   generalize l[k] = s at hcell' HM HT HV HQk
   have t0 : wr.cell? ⟨b, off + k * 10, none⟩ = _ := hcell' 0 _ rfl
   have t1 := hcell' 1 _ rfl
   have t2 := hcell' 2 _ rfl
   have t3 := hcell' 3 _ rfl
   have t4 := hcell' 4 _ rfl
   have t5 := hcell' 5 _ rfl
   have t6 := hcell' 6 _ rfl
   have t7 := hcell' 7 _ rfl
   have t8 := hcell' 8 _ rfl
   have t9 := hcell' 9 _ rfl
   clear hcell hcell' gk hb
   rw [HQk.out] at HV
   cases hf : q s with
   | false =>
    rw [hf] at HV
    have H1 : Hid (∀ s ∈ l.take (k + 1), q s = false) := hid fun a ha => by
     rw [HT.out] at ha
     rcases List.mem_append.1 ha with h | h
     ·exact HK.out a h
     ·obtain rfl : a = s := by simpa using h
      exact hf
    clear hf
    go_wp2_with fail
    clear t0 t1 t2 t3 t4 t5 t6 t7 t8 t9
    refine HV.out.mono ?_
    rintro e w2 ⟨rfl, hg2⟩
    have HG2 : Hid (Grow w w2) := HG.out.trans hg2
    clear hg2
    go_wp2
    go_roundw
    case rel => exact ⟨k + 1, by omega, by go_num, H1, HG2.out⟩
    case measure => simp [intOf]; omega
   | true =>
    rw [hf] at HV
    have HI : Hid (Hit l q (k : Int)) := hid (Hit.at HM.out hf)
    clear hf
    go_wp2_with fail
    clear t0 t1 t2 t3 t4 t5 t6 t7 t8 t9
    refine HV.out.mono ?_
    rintro e w2 ⟨rfl, hg2⟩
    have HG2 : Hid (Grow w w2) := HG.out.trans hg2
    clear hg2
    go_wp2
    go_ret
    exact ⟨k, rfl, HI.out, HG2.out⟩
  ·have HI : Hid (Hit l q (-1)) := hid (Hit.no (by
    have : l.take k = l := by rw [List.take_of_length_le (by have := HL.out; omega)]
    have h := HK.out
    rwa [this] at h))
   go_wp2
   go_ret
   exact ⟨-1, rfl, HI.out, HG.out⟩
theorem hasWr1 (A : Option Addr) (n c : Nat) (l : List Sg) (hok : ∀ s ∈ l, s.Ok) (wide : Bool) (d g1 g2 : Nat) (w : World) (h : ZR sgK w w.heap.size A n c l) (hd : d < 18446744073709551616) (h1 : w.cell? ⟨g1, 0, none⟩ = some (.int .u64 (d : Int))) (h2 : w.cell? ⟨g2, 0, none⟩ = some (.int .u64 (lastA wide : Nat))) (b1 : g1 < w.heap.size) (b2 : g2 < w.heap.size) :
  Calls Try.prog 58 #[.slice A n c, .func (.func 59) #[] #[.pointer (some ⟨g1, 0, none⟩), .pointer (some ⟨g2, 0, none⟩)]] w fun e w' => e = .returned (.bool (l.any fun s => s.over wide d)) ∧ Grow w w' := by
 have HI := hid (idxWr1 A n c l hok wide d g1 g2 w h hd h1 h2 b1 b2)
 clear h h1 h2 b1 b2 hd hok
 unfold Hit at HI
 generalize (l.any fun s => s.over wide d) = R at HI ⊢
 go_enter Try.func58, Try.ntmps58
 go_wp2_with fail
 refine HI.out.mono ?_
 rintro e w' ⟨i, rfl, hi, hg⟩
 have H := hid hi
 have HG := hid hg
 clear hi hg
 go_wp2
 go_ret
 exact ⟨ret_bool H.out, HG.out⟩
set_option maxHeartbeats 1000000 in
theorem idxWr2 (A : Option Addr) (n c : Nat) (l : List Se) (hok : ∀ s ∈ l, s.Ok) (wide : Bool) (d g1 g2 : Nat) (w : World) (h : ZR seK w w.heap.size A n c l) (hd : d < 18446744073709551616) (h1 : w.cell? ⟨g1, 0, none⟩ = some (.int .u64 (d : Int))) (h2 : w.cell? ⟨g2, 0, none⟩ = some (.int .u64 (lastA wide : Nat))) (b1 : g1 < w.heap.size) (b2 : g2 < w.heap.size) :
  Calls Try.prog 79 #[.slice A n c, .func (.func 62) #[] #[.pointer (some ⟨g1, 0, none⟩), .pointer (some ⟨g2, 0, none⟩)]] w fun e w' => ∃ i : Int, e = .returned (.int .i64 i) ∧ Hit l (fun s => s.over wide d) i ∧ Grow w w' := by
 have HS := hid h
 have HL := hid h.len
 have HV0 := hid (fun (s : Se) (hs : s ∈ l) (S : Value) (W : World) (hW : Grow w W) => rbWr2_any s (hok s hs) S wide d g1 g2 W hd ((Below.cell hW b1).trans h1) ((Below.cell hW b2).trans h2) (Nat.lt_of_lt_of_le b1 hW.size) (Nat.lt_of_lt_of_le b2 hW.size))
 have hcc := h.cap
 have hcm := h.max
 unfold maxLen at hcm
 clear h h1 h2 b1 b2 hd hok
 generalize hq : (fun s : Se => s.over wide d) = q
 have HQ : Hid (∀ s, (s.over wide d) = q s) := hid fun s => by rw [← hq]
 clear hq
 go_enter Try.func79, Try.ntmps79
 go_wp2_with fail
 go_loopw [8] (fun i wr => ∃ k : Nat, k ≤ n ∧ i = .int .i64 k ∧ Hid (∀ s ∈ l.take k, q s = false) ∧ Grow w wr) (fun i _ => n - (intOf i).toNat)
 case atStart => exact ⟨0, Nat.zero_le _, rfl, hid fun v h => absurd h (by simp), Grow.refl _⟩
 case round =>
  obtain ⟨k, hk, rfl, HK, hg⟩ := hrel
  have HG := hid hg
  clear hg
  by_cases hlt : k < n
  ·obtain ⟨b, off, rfl, hb⟩ := HS.out.pos (by omega)
   have hkl : k < l.length := by rw [← HL.out]; exact hlt
   obtain ⟨Ak, nk, ck, -, hcell, gk⟩ := HS.out.at hkl
   have hcell' : ∀ i v, (seC l[k] (.slice Ak nk ck))[i]? = some v → wr.cell? ⟨b, off + k * 13 + i, none⟩ = some v := fun i v hv => (Below.cell HG.out hb).trans (hcell i v hv)
   have HV := hid (HV0.out l[k] (List.getElem_mem hkl) (.slice Ak nk ck) wr HG.out)
   have HM := hid (List.getElem_mem hkl)
   have HT := hid (takeS l k hkl)
   have HQk := hid (HQ.out l[k])
   unfold seC at hcell' HV
   generalize l[k] = s at hcell' HM HT HV HQk
   have t0 : wr.cell? ⟨b, off + k * 13, none⟩ = _ := hcell' 0 _ rfl
   have t1 := hcell' 1 _ rfl
   have t2 := hcell' 2 _ rfl
   have t3 := hcell' 3 _ rfl
   have t4 := hcell' 4 _ rfl
   have t5 := hcell' 5 _ rfl
   have t6 := hcell' 6 _ rfl
   have t7 := hcell' 7 _ rfl
   have t8 := hcell' 8 _ rfl
   have t9 := hcell' 9 _ rfl
   have t10 := hcell' 10 _ rfl
   have t11 := hcell' 11 _ rfl
   have t12 := hcell' 12 _ rfl
   clear hcell hcell' gk hb
   rw [HQk.out] at HV
   cases hf : q s with
   | false =>
    rw [hf] at HV
    have H1 : Hid (∀ s ∈ l.take (k + 1), q s = false) := hid fun a ha => by
     rw [HT.out] at ha
     rcases List.mem_append.1 ha with h | h
     ·exact HK.out a h
     ·obtain rfl : a = s := by simpa using h
      exact hf
    clear hf
    go_wp2_with fail
    clear t0 t1 t2 t3 t4 t5 t6 t7 t8 t9 t10 t11 t12
    refine HV.out.mono ?_
    rintro e w2 ⟨rfl, hg2⟩
    have HG2 : Hid (Grow w w2) := HG.out.trans hg2
    clear hg2
    go_wp2
    go_roundw
    case rel => exact ⟨k + 1, by omega, by go_num, H1, HG2.out⟩
    case measure => simp [intOf]; omega
   | true =>
    rw [hf] at HV
    have HI : Hid (Hit l q (k : Int)) := hid (Hit.at HM.out hf)
    clear hf
    go_wp2_with fail
    clear t0 t1 t2 t3 t4 t5 t6 t7 t8 t9 t10 t11 t12
    refine HV.out.mono ?_
    rintro e w2 ⟨rfl, hg2⟩
    have HG2 : Hid (Grow w w2) := HG.out.trans hg2
    clear hg2
    go_wp2
    go_ret
    exact ⟨k, rfl, HI.out, HG2.out⟩
  ·have HI : Hid (Hit l q (-1)) := hid (Hit.no (by
    have : l.take k = l := by rw [List.take_of_length_le (by have := HL.out; omega)]
    have h := HK.out
    rwa [this] at h))
   go_wp2
   go_ret
   exact ⟨-1, rfl, HI.out, HG.out⟩
theorem hasWr2 (A : Option Addr) (n c : Nat) (l : List Se) (hok : ∀ s ∈ l, s.Ok) (wide : Bool) (d g1 g2 : Nat) (w : World) (h : ZR seK w w.heap.size A n c l) (hd : d < 18446744073709551616) (h1 : w.cell? ⟨g1, 0, none⟩ = some (.int .u64 (d : Int))) (h2 : w.cell? ⟨g2, 0, none⟩ = some (.int .u64 (lastA wide : Nat))) (b1 : g1 < w.heap.size) (b2 : g2 < w.heap.size) :
  Calls Try.prog 61 #[.slice A n c, .func (.func 62) #[] #[.pointer (some ⟨g1, 0, none⟩), .pointer (some ⟨g2, 0, none⟩)]] w fun e w' => e = .returned (.bool (l.any fun s => s.over wide d)) ∧ Grow w w' := by
 have HI := hid (idxWr2 A n c l hok wide d g1 g2 w h hd h1 h2 b1 b2)
 clear h h1 h2 b1 b2 hd hok
 unfold Hit at HI
 generalize (l.any fun s => s.over wide d) = R at HI ⊢
 go_enter Try.func61, Try.ntmps61
 go_wp2_with fail
 refine HI.out.mono ?_
 rintro e w' ⟨i, rfl, hi, hg⟩
 have H := hid hi
 have HG := hid hg
 clear hi hg
 go_wp2
 go_ret
 exact ⟨ret_bool H.out, HG.out⟩
set_option maxHeartbeats 1000000 in
theorem idxAm1 (A : Option Addr) (n c : Nat) (l : List Sg) (hok : ∀ s ∈ l, s.Ok) (a g1 : Nat) (w : World) (h : ZR sgK w w.heap.size A n c l) (ha : a < 18446744073709551616) (h1 : w.cell? ⟨g1, 0, none⟩ = some (.int .u64 (a : Int))) (b1 : g1 < w.heap.size) :
  Calls Try.prog 78 #[.slice A n c, .func (.func 89) #[] #[.pointer (some ⟨g1, 0, none⟩)]] w fun e w' => ∃ i : Int, e = .returned (.int .i64 i) ∧ Hit l (fun s => s.inMem a) i ∧ Grow w w' := by
 have HS := hid h
 have HL := hid h.len
 have HV0 := hid (fun (s : Sg) (hs : s ∈ l) (S : Value) (W : World) (hW : Grow w W) => rbAm1_any s (hok s hs) S a g1 W ha ((Below.cell hW b1).trans h1) (Nat.lt_of_lt_of_le b1 hW.size))
 have hcc := h.cap
 have hcm := h.max
 unfold maxLen at hcm
 clear h h1 b1 ha hok
 generalize hq : (fun s : Sg => s.inMem a) = q
 have HQ : Hid (∀ s, (s.inMem a) = q s) := hid fun s => by rw [← hq]
 clear hq
 go_enter Try.func78, Try.ntmps78
 go_wp2_with fail
 go_loopw [8] (fun i wr => ∃ k : Nat, k ≤ n ∧ i = .int .i64 k ∧ Hid (∀ s ∈ l.take k, q s = false) ∧ Grow w wr) (fun i _ => n - (intOf i).toNat)
 case atStart => exact ⟨0, Nat.zero_le _, rfl, hid fun v h => absurd h (by simp), Grow.refl _⟩
 case round =>
  obtain ⟨k, hk, rfl, HK, hg⟩ := hrel
  have HG := hid hg
  clear hg
  by_cases hlt : k < n
  ·obtain ⟨b, off, rfl, hb⟩ := HS.out.pos (by omega)
   have hkl : k < l.length := by rw [← HL.out]; exact hlt
   obtain ⟨Ak, nk, ck, -, hcell, gk⟩ := HS.out.at hkl
   have hcell' : ∀ i v, (sgC l[k] (.slice Ak nk ck))[i]? = some v → wr.cell? ⟨b, off + k * 10 + i, none⟩ = some v := fun i v hv => (Below.cell HG.out hb).trans (hcell i v hv)
   have HV := hid (HV0.out l[k] (List.getElem_mem hkl) (.slice Ak nk ck) wr HG.out)
   have HM := hid (List.getElem_mem hkl)
   have HT := hid (takeS l k hkl)
   have HQk := hid (HQ.out l[k])
   unfold sgC at hcell' HV
   generalize l[k] = s at hcell' HM HT HV HQk
   have t0 : wr.cell? ⟨b, off + k * 10, none⟩ = _ := hcell' 0 _ rfl
   have t1 := hcell' 1 _ rfl
   have t2 := hcell' 2 _ rfl
   have t3 := hcell' 3 _ rfl
   have t4 := hcell' 4 _ rfl
   have t5 := hcell' 5 _ rfl
   have t6 := hcell' 6 _ rfl
   have t7 := hcell' 7 _ rfl
   have t8 := hcell' 8 _ rfl
   have t9 := hcell' 9 _ rfl
   clear hcell hcell' gk hb
   rw [HQk.out] at HV
   cases hf : q s with
   | false =>
    rw [hf] at HV
    have H1 : Hid (∀ s ∈ l.take (k + 1), q s = false) := hid fun a ha => by
     rw [HT.out] at ha
     rcases List.mem_append.1 ha with h | h
     ·exact HK.out a h
     ·obtain rfl : a = s := by simpa using h
      exact hf
    clear hf
    go_wp2_with fail
    clear t0 t1 t2 t3 t4 t5 t6 t7 t8 t9
    refine HV.out.mono ?_
    rintro e w2 ⟨rfl, hg2⟩
    have HG2 : Hid (Grow w w2) := HG.out.trans hg2
    clear hg2
    go_wp2
    go_roundw
    case rel => exact ⟨k + 1, by omega, by go_num, H1, HG2.out⟩
    case measure => simp [intOf]; omega
   | true =>
    rw [hf] at HV
    have HI : Hid (Hit l q (k : Int)) := hid (Hit.at HM.out hf)
    clear hf
    go_wp2_with fail
    clear t0 t1 t2 t3 t4 t5 t6 t7 t8 t9
    refine HV.out.mono ?_
    rintro e w2 ⟨rfl, hg2⟩
    have HG2 : Hid (Grow w w2) := HG.out.trans hg2
    clear hg2
    go_wp2
    go_ret
    exact ⟨k, rfl, HI.out, HG2.out⟩
  ·have HI : Hid (Hit l q (-1)) := hid (Hit.no (by
    have : l.take k = l := by rw [List.take_of_length_le (by have := HL.out; omega)]
    have h := HK.out
    rwa [this] at h))
   go_wp2
   go_ret
   exact ⟨-1, rfl, HI.out, HG.out⟩
theorem hasAm1 (A : Option Addr) (n c : Nat) (l : List Sg) (hok : ∀ s ∈ l, s.Ok) (a g1 : Nat) (w : World) (h : ZR sgK w w.heap.size A n c l) (ha : a < 18446744073709551616) (h1 : w.cell? ⟨g1, 0, none⟩ = some (.int .u64 (a : Int))) (b1 : g1 < w.heap.size) :
  Calls Try.prog 58 #[.slice A n c, .func (.func 89) #[] #[.pointer (some ⟨g1, 0, none⟩)]] w fun e w' => e = .returned (.bool (l.any fun s => s.inMem a)) ∧ Grow w w' := by
 have HI := hid (idxAm1 A n c l hok a g1 w h ha h1 b1)
 clear h h1 b1 ha hok
 unfold Hit at HI
 generalize (l.any fun s => s.inMem a) = R at HI ⊢
 go_enter Try.func58, Try.ntmps58
 go_wp2_with fail
 refine HI.out.mono ?_
 rintro e w' ⟨i, rfl, hi, hg⟩
 have H := hid hi
 have HG := hid hg
 clear hi hg
 go_wp2
 go_ret
 exact ⟨ret_bool H.out, HG.out⟩
end Go.Proofs.Ytfpihkbpelbcbaa
