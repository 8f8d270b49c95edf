/-
  The contract of note.read: the note that bytes begin with, its bytes in new memory, and how many it has; or what is wrong with it.
-/
import Derived.Test.YtheekcjpphcihaaNtA
import Derived.Test.YtheekcjpphcihaaNtCut
import Derived.Test.YtheekcjpphcihaaReads
import Derived.Test.YtheekcjpphcihaaFork
import Derived.Test.YtheekcjpphcihaaWireGet
namespace Go.Proofs.Ytheekcjpphcihaa
open Go.RowKit

/-- What read answers: bd: what is wrong; E: how many bytes; s: the note. -/
def NRd (bd E : Nat) (s : Nt) (w : World) (e : Ending) (w' : World) : Prop :=
  ∃ (r : Array Value) (m : Nat), e = .returned (.tuple #[.agg r, .int .i64 (m : Int), .int .i64 (bd : Int)]) ∧ r.size = 3 ∧ r.all (·.oneCell') = true ∧ (bd = 0 → m = E ∧ NtO w' w.heap.size 5 r s) ∧ Grow w w'

theorem nrd_ret {bd E : Nat} {s : Nt} {w W : World} {tmps : Array Value} {g m : Nat} {r : Array Value} (h4 : tmps.getD 4 undef = .pointer (some ⟨g, 0, none⟩)) (h5 : tmps.getD 5 undef = .int .i64 (m : Int)) (h6 : tmps.getD 6 undef = .int .i64 (bd : Int))
    (hb : Blk W g 41 r) (hs : r.size = 3) (ho : r.all (·.oneCell') = true) (hn : bd = 0 → m = E ∧ NtO W w.heap.size 5 r s) (hg : Grow w W) : bodyPost Try.prog Try.f13 (NRd bd E s w) .ret ⟨tmps, []⟩ W := by
  refine bodyPost_ret (v := .tuple #[.agg r, .int .i64 (m : Int), .int .i64 (bd : Int)]) ?_ rfl ⟨r, m, rfl, hs, ho, hn, hg⟩
  rw [results_cell_tmp2 rfl, h4, h5, h6]
  have hv := hb.var (P := Try.prog) 41 _ Try.underlying41 rfl (by rw [hs]; kernel_rfl)
  simp [asAddr, Result.andThen, hv]

theorem Below.setRow' {B g : Nat} (W : World) (hg : B ≤ g) (cs : Array Value) : Below B W (W.setRow g cs) := ⟨rfl, rfl, rfl, by simp, fun k hk => setRow_other W g k cs (by omega)⟩

theorem OB.blkNe {w : World} {base : Nat} {e t : TypeId} {A : Option Addr} {n c g : Nat} {l : List UInt8} {cs : Array Value} (h : OB w base e A n c l) (hb : Blk w g t cs) (ht : e ≠ t) : own A ≠ some g := fun hA => by
  rcases h.2 with ⟨hv, _⟩ | ⟨g', cap, cur, hv, _, hh, _⟩
  · injection hv with e1 _ _
    subst e1
    cases hA
  · injection hv with e1 _ _
    subst e1
    have e3 : g' = g := Option.some.inj hA
    subst e3
    rw [hb] at hh
    injection hh with hh
    injection hh with _ hh
    exact ht hh.symm

theorem OB.otherRow {w : World} {base : Nat} {e t : TypeId} {A : Option Addr} {n c g : Nat} {l : List UInt8} {cs : Array Value} (h : OB w base e A n c l) (hb : Blk w g t cs) (ht : e ≠ t) (cs' : Array Value) : OB (w.setRow g cs') base e A n c l := by
  have hne := h.blkNe hb ht
  refine ⟨h.1, ?_⟩
  rcases h.2 with h0 | ⟨g', cap, cur, hv, hb, hh, r⟩
  · exact .inl h0
  · refine .inr ⟨g', cap, cur, hv, hb, ?_, r⟩
    have : g' ≠ g := fun he => hne (by injection hv with e1 _ _; subst e1; subst he; rfl)
    rw [setRow_other w g g' cs' (by exact this)]
    exact hh
theorem NtO.otherRow {w : World} {base : Nat} {e t : TypeId} {r : Array Value} {s : Nt} {g : Nat} {cs : Array Value} (h : NtO w base e r s) (hb : Blk w g t cs) (ht : e ≠ t) (cs' : Array Value) : NtO (w.setRow g cs') base e r s := by
  obtain ⟨A, n, c, A', n', c', e1, h1, h2⟩ := h
  exact ⟨A, n, c, A', n', c', e1, h1.otherRow hb ht cs', h2.otherRow hb ht cs'⟩

set_option maxHeartbeats 1000000 in
theorem nRead_any (a : Addr) (n c : Nat) (l : List UInt8) (wide big : Bool) (w : World) (h : RB w w.heap.size (some a) n c l) :
    Calls Try.prog 13 #[.slice (some a) n c, .agg #[.bool wide, .bool big]] w (NRd (ntBad l big) (ntE l big) (ntOf l big) w) := by
  have HR := Lib.hid h
  have hl := h.len
  have hcp := h.cap
  have hmx := h.max
  unfold maxLen at hmx
  by_cases hs : n < 12
  · have hb : ntBad l big = 2 := by
      have := ntE_ge l big
      rcases ntBad_cases l big with ⟨-, h⟩ | ⟨h, -⟩ | ⟨h, -⟩ <;> omega
    rw [hb]
    clear h hl hb
    go_enter Try.func13, Try.ntmps13
    go_wp2_with fail
    exact nrd_ret rfl rfl rfl ((blk2 rfl).2.1) rfl (by simp [Value.oneCell']) (fun h => absurd h (by decide)) (blk2 rfl).2.2
  · have HGet : Hid (∀ (q : Nat) (w' : World), RB w' w.heap.size (some a) n c l → q + 4 ≤ n → Calls Try.prog 20 #[.slice (some a) n c, .int .u64 q, .int .i64 4, .bool big] w' fun e w2 =>
        e = .returned (.tuple #[.int .u64 (ntG l big q : Nat), .bool true]) ∧ Grow w' w2) := Lib.hid fun q w' h hq => by
      have hg : gotB l q (4 : Nat) = true := by
        simp only [gotB, wthn]
        exact decide_eq_true (by omega)
      have hv : gotV l q (4 : Nat) big = ntG l big q := by
        simp only [gotV, hg, if_true, Int.toNat_natCast, ntG]
      refine (get_any (some a) n c l _ q (4 : Nat) big w' h (by omega)).mono fun e w2 ⟨he, m, hw⟩ => ?_
      rw [hg, hv] at he
      exact ⟨he, by rw [hw]; exact Grow.of_drewN _ _⟩
    have HG0 := Lib.hid fun w' h => HGet.out 0 w' h (by omega)
    have HG4 := Lib.hid fun w' h => HGet.out 4 w' h (by omega)
    have HG8 := Lib.hid fun w' h => HGet.out 8 w' h (by omega)
    have hM : ntM l big = 12 + fil (ntG l big 0) := rfl
    have hE : ntE l big = ntM l big + fil (ntG l big 4) := rfl
    have hf0 := fil_ge (ntG l big 0)
    have hf4 := fil_ge (ntG l big 4)
    have hE9 := ntE_lt l big
    have h8 := ntG_lt l big 8
    have HF0 := Lib.hid (fun w => filled_any (ntG l big 0) (by have := ntG_lt l big 0; omega) w)
    have HF4 := Lib.hid (fun w => filled_any (ntG l big 4) (by have := ntG_lt l big 4; omega) w)
    have HN : Hid (ntN l big = (l.drop 12).take (fil (ntG l big 0))) := Lib.hid rfl
    have HD : Hid (ntD l big = (l.drop (ntM l big)).take (fil (ntG l big 4))) := Lib.hid rfl
    have HZ : Hid (ntZ l big = (zeros ((ntN l big).drop (ntG l big 0)) && zeros ((ntD l big).drop (ntG l big 4)))) := Lib.hid rfl
    have HO : Hid (ntOf l big = ⟨(ntN l big).take (ntG l big 0), (ntD l big).take (ntG l big 4), ntG l big 8⟩) := Lib.hid rfl
    have HC := Lib.hid (ntBad_cases l big)
    rw [← hl] at HC
    generalize ntOf l big = s at HO ⊢
    generalize ntBad l big = bd at HC ⊢
    generalize ntZ l big = Z at HZ HC
    generalize ntE l big = E at hE hE9 HC ⊢
    generalize ntM l big = M at hM hE HD
    generalize ntN l big = LN at HN HZ HO
    generalize ntD l big = LD at HD HZ HO
    generalize ntG l big 0 = x0 at HG0 hM hf0 HF0 HN HZ HO
    generalize ntG l big 4 = x4 at HG4 hE hf4 HF4 HD HZ HO
    generalize ntG l big 8 = x8 at HG8 HO h8
    generalize fil x0 = f0 at hM hf0 HF0 HN
    generalize fil x4 = f4 at hE hf4 HF4 HD
    have z1 : IntKind.u64.wrap (12 + (f0 : Int)) = (M : Int) := by rw [IntKind.wrap_u64]; omega
    have z2 : IntKind.u64.wrap ((M : Int) + (f4 : Int)) = (E : Int) := by rw [IntKind.wrap_u64]; omega
    have z3 : IntKind.u64.wrap (n : Int) = (n : Int) := by rw [IntKind.wrap_u64]; omega
    have HA : Hid (M = 12 + f0 ∧ E = M + f4 ∧ x0 ≤ f0 ∧ x4 ≤ f4 ∧ E < 8589934622) := Lib.hid ⟨hM, hE, hf0, hf4, hE9⟩
    clear h hl HGet hM hE hf0 hf4 hE9
    go_enter Try.func13, Try.ntmps13
    go_wp2_with fail
    generalize hW : World.alloc _ _ = W0
    obtain ⟨bf, b4, hg0⟩ := blk2 hW
    have HBF0 := Lib.hid bf
    have HB40 := Lib.hid b4
    have HGr0 := Lib.hid hg0
    clear hW bf b4 hg0
    obtain ⟨y0, y1⟩ := HBF0.out.c2
    go_wp2_with fail
    clear y0 y1
    refine (HG0.out _ (HR.out.belowAt HGr0.out (Nat.le_refl _))).mono ?_
    rintro e w1 ⟨rfl, hg1⟩
    have HBF1 := Lib.hid (HBF0.out.grow hg1)
    have HB41 := Lib.hid (HB40.out.grow hg1)
    have HGr1 : Hid (Grow w w1) := HGr0.out.trans hg1
    clear hg1 HBF0 HB40 HGr0 HG0
    obtain ⟨y0, y1⟩ := HBF1.out.c2
    go_wp2_with fail
    clear y0 y1
    refine (HG4.out _ (HR.out.belowAt HGr1.out (Nat.le_refl _))).mono ?_
    rintro e w2 ⟨rfl, hg2⟩
    have HBF2 := Lib.hid (HBF1.out.grow hg2)
    have HB42 := Lib.hid (HB41.out.grow hg2)
    have HGr2 : Hid (Grow w w2) := HGr1.out.trans hg2
    clear hg2 HBF1 HB41 HGr1 HG4
    obtain ⟨y0, y1⟩ := HBF2.out.c2
    go_wp2_with fail
    clear y0 y1
    refine (HG8.out _ (HR.out.belowAt HGr2.out (Nat.le_refl _))).mono ?_
    rintro e w3 ⟨rfl, hg3⟩
    have HB43 := Lib.hid (HB42.out.grow hg3)
    have HGr3 : Hid (Grow w w3) := HGr2.out.trans hg3
    clear hg3 HBF2 HB42 HGr2 HG8
    go_wp2_with fail
    refine (HF0.out _).mono ?_
    rintro e w' ⟨rfl, rfl⟩
    go_wp2_with fail
    refine (HF4.out _).mono ?_
    rintro e w' ⟨rfl, rfl⟩
    clear HF0 HF4
    by_cases hEn : n < E
    · have hb : bd = 2 := by
        rcases HC.out with ⟨-, h⟩ | ⟨h, -⟩ | ⟨h, -⟩
        · exact h
        · omega
        · omega
      subst hb
      clear hs
      have HGr4 : Hid (Grow w (w3.setRow (w.heap.size + 1) #[.slice none 0 0, .slice none 0 0, .int .u32 0])) := Grow.set HGr3.out (Nat.le_succ _) _
      go_wp2_with (refine wpList_store_row rfl 41 (.tmp 4) (.tmp 55) rfl (w.heap.size + 1) #[.slice none 0 0, .slice none 0 0, .int .u32 0] rfl rfl _ _ HB43.out (by kernel_rfl) rfl (by simp [Value.oneCell']) ?_)
      exact nrd_ret rfl rfl rfl (HB43.out.set _) rfl (by simp [Value.oneCell']) (fun h => absurd h (by decide)) HGr4.out
    · have hEl : E ≤ n := by omega
      have HB : Hid ((Z = false ∧ bd = 4) ∨ (Z = true ∧ bd = 0)) := Lib.hid (by
        rcases HC.out with ⟨h, -⟩ | ⟨-, h, h2⟩ | ⟨-, h, h2⟩
        · omega
        · exact .inl ⟨h, h2⟩
        · exact .inr ⟨h, h2⟩)
      obtain ⟨hM, hE, hf0, hf4, hE9⟩ := HA.out
      have eM : M - 12 = f0 := by omega
      have eE : E - M = f4 := by omega
      have elem8 : Try.prog.elem 25 = 5 := by kernel_rfl
      have ht8 : Try.prog.underlying 25 = some (.slice (Try.prog.elem 25)) := by rw [elem8]; exact Try.underlying25
      have hz8 : ∀ W, (sizeOf (Try.prog.elem 25)).run Try.prog W = .ok 1 W := fun W => by rw [elem8]; kernel_rfl
      have s1 := run_cut_lh (P := Try.prog) 25 ht8 hz8 a n c .i64 .u64 12 M (by omega) (by omega)
      have s2 := run_cut_lh (P := Try.prog) 25 ht8 hz8 a n c .u64 .u64 M E (by omega) (by omega)
      have r1 := HR.out.cut (p := 12) (m := f0) (by omega)
      have r2 := HR.out.cut (p := M) (m := f4) (by omega)
      rw [← HN.out] at r1
      rw [← HD.out] at r2
      rw [eM, show ((12 : Nat) : Int) = 12 from rfl] at s1
      rw [eE] at s2
      generalize cutA a c 12 = a1 at s1 r1
      generalize cutA a c M = a2 at s2 r2
      generalize c - 12 = c1 at s1 r1
      generalize c - M = c2 at s2 r2
      have HS1 := Lib.hid s1
      have HS2 := Lib.hid s2
      have HR1 := Lib.hid r1
      have HR2 := Lib.hid r2
      have k1 := r1.cap
      have k2 := r2.cap
      have s3 := run_cut_l (P := Try.prog) 25 ht8 hz8 a1 f0 c1 .u64 x0 hf0
      have s4 := run_cut_l (P := Try.prog) 25 ht8 hz8 a2 f4 c2 .u64 x4 hf4
      have s5 := run_cut_h (P := Try.prog) 25 ht8 hz8 a1 f0 c1 .u64 x0 (by omega)
      have s6 := run_cut_h (P := Try.prog) 25 ht8 hz8 a2 f4 c2 .u64 x4 (by omega)
      have r3 := r1.cut (p := x0) (m := f0 - x0) (by omega)
      have r4 := r2.cut (p := x4) (m := f4 - x4) (by omega)
      have r5 := r1.cut (p := 0) (m := x0) (by omega)
      have r6 := r2.cut (p := 0) (m := x4) (by omega)
      rw [cutA_zero, List.drop_zero, Nat.sub_zero] at r5 r6
      have e3 : (LN.drop x0).take (f0 - x0) = LN.drop x0 := List.take_of_length_le (by rw [List.length_drop, ← r1.len]; exact Nat.le_refl _)
      have e4 : (LD.drop x4).take (f4 - x4) = LD.drop x4 := List.take_of_length_le (by rw [List.length_drop, ← r2.len]; exact Nat.le_refl _)
      rw [e3] at r3
      rw [e4] at r4
      generalize cutA a1 c1 x0 = a3 at s3 r3
      generalize cutA a2 c2 x4 = a4 at s4 r4
      generalize c1 - x0 = c3 at s3 r3
      generalize c2 - x4 = c4 at s4 r4
      generalize f0 - x0 = n3 at s3 r3
      generalize f4 - x4 = n4 at s4 r4
      have HS3 := Lib.hid s3
      have HS4 := Lib.hid s4
      have HS5 := Lib.hid s5
      have HS6 := Lib.hid s6
      have HR3 := Lib.hid r3
      have HR4 := Lib.hid r4
      have HR5 := Lib.hid r5
      have HR6 := Lib.hid r6
      have HX0 : Hid (x0 ≤ 8589934622 ∧ x4 ≤ 8589934622) := Lib.hid (by omega)
      have z4 : IntKind.i64.wrap (E : Int) = (E : Int) := by rw [IntKind.wrap_i64]; omega
      have z5 : IntKind.u32.wrap (x8 : Int) = (x8 : Int) := by rw [IntKind.wrap_u32]; omega
      clear s1 s2 s3 s4 s5 s6 r1 r2 r3 r4 r5 r6 e3 e4 k1 k2 eM eE hM hE hf0 hf4 hE9 HC HR HN HD HA elem8 ht8 hz8
      generalize hZ0 : zeros (LN.drop x0) = Z0 at HZ
      have HZ0 := Lib.hid hZ0
      clear hZ0
      have hEi : ¬ ((E : Int) > (n : Int)) := by omega
      generalize hZ1 : zeros (LD.drop x4) = Z1 at HZ
      have HZ1 := Lib.hid hZ1
      clear hZ1
      go_wp2_with fail
      refine wp_region_chain [(0, true), (1, true), (2, true), (3, true), (4, true), (5, true), (6, true), (7, true), (8, true)] (by kernel_rfl) (by kernel_rfl) (by kernel_rfl) ?_
      have HG4 : Hid (Grow w w3.drew) := HGr3.out.trans (Grow.of_drew _)
      have HB44 : Hid (Blk w3.drew (w.heap.size + 1) 41 #[.slice none 0 0, .slice none 0 0, .int .u32 0]) := HB43.out
      generalize w3.drew = w4 at HG4 HB44 ⊢
      clear HGr3 HB43
      repeat (refine chain_take rfl (by rfl) ?_ (fun W hG => ?_) ?_; rotate_left; (have q1 := HS1.out W; have q2 := HS2.out W; go_simp; rfl); simp only [Act.put, List.setIfInBounds_toArray, List.set_cons_zero, List.set_cons_succ])
      refine chain_done ?_
      clear HS1 HS2 HR1 HR2
      have q3 := HS3.out
      have q4 := HS4.out
      have HI3 := Lib.hid (isZero_any (some a3) n3 c3 _ _ w4 (HR3.out.belowAt HG4.out (Nat.le_refl _)))
      have HI4 := Lib.hid (isZero_any (some a4) n4 c4 _ _ w4 (HR4.out.belowAt HG4.out (Nat.le_refl _)))
      rw [HZ0.out] at HI3
      rw [HZ1.out] at HI4
      clear HR3 HR4 HS3 HS4
      have HG5 : Hid (Grow w (w4.setRow (w.heap.size + 1) #[.slice none 0 0, .slice none 0 0, .int .u32 0])) := Grow.set HG4.out (Nat.le_succ _) _
      cases Z0
      · have hb : bd = 4 := by
          have := HZ.out
          simp at this
          rcases HB.out with ⟨-, h⟩ | ⟨h, -⟩
          · exact h
          · rw [this] at h; cases h
        subst hb
        go_wp2_with fail
        refine (HI3.out).mono ?_
        rintro e w' ⟨rfl, rfl⟩
        go_wp2_with (refine wpList_store_row rfl 41 (.tmp 4) (.tmp 75) rfl (w.heap.size + 1) #[.slice none 0 0, .slice none 0 0, .int .u32 0] rfl rfl _ _ HB44.out (by kernel_rfl) rfl (by simp [Value.oneCell']) ?_)
        exact nrd_ret rfl rfl rfl (HB44.out.set _) rfl (by simp [Value.oneCell']) (fun h => absurd h (by decide)) HG5.out
      · cases Z1
        · have hb : bd = 4 := by
            have := HZ.out
            simp at this
            rcases HB.out with ⟨-, h⟩ | ⟨h, -⟩
            · exact h
            · rw [this] at h; cases h
          subst hb
          go_wp2_with fail
          refine (HI3.out).mono ?_
          rintro e w' ⟨rfl, rfl⟩
          go_wp2_with fail
          refine (HI4.out).mono ?_
          rintro e w' ⟨rfl, rfl⟩
          go_wp2_with (refine wpList_store_row rfl 41 (.tmp 4) (.tmp 75) rfl (w.heap.size + 1) #[.slice none 0 0, .slice none 0 0, .int .u32 0] rfl rfl _ _ HB44.out (by kernel_rfl) rfl (by simp [Value.oneCell']) ?_)
          exact nrd_ret rfl rfl rfl (HB44.out.set _) rfl (by simp [Value.oneCell']) (fun h => absurd h (by decide)) HG5.out
        · have hb : bd = 0 := by
            have := HZ.out
            simp at this
            rcases HB.out with ⟨h, -⟩ | ⟨-, h⟩
            · rw [this] at h; cases h
            · exact h
          subst hb
          go_wp2_with fail
          refine (HI3.out).mono ?_
          rintro e w' ⟨rfl, rfl⟩
          go_wp2_with fail
          refine (HI4.out).mono ?_
          rintro e w' ⟨rfl, rfl⟩
          clear q3 q4 HI3 HI4 HZ0 HZ1 HZ HB HG5
          go_wp2_with fail
          refine wp_region_tree (leap_below (w.heap.size + 2)) (.chain [(0, true), (1, true), (2, true), (4, true), (5, true), (6, true), (8, true), (9, true)] (.both 3 (.both 7 (.chain [(10, true), (11, false), (12, false)] .done) 11 (.chain [(7, false), (10, true), (12, false)] .done)) 11 (.chain [(3, false), (7, false), (10, true), (12, false)] .done))) (by kernel_rfl) (by kernel_rfl) (by kernel_rfl) ?_
          have HG5 : Hid (Grow w w4.drew) := HG4.out.trans (Grow.of_drew _)
          have HB5 : Hid (Blk w4.drew (w.heap.size + 1) 41 #[.slice none 0 0, .slice none 0 0, .int .u32 0]) := HB44.out
          generalize w4.drew = w5 at HG5 HB5 ⊢
          clear HG4 HB44
          have HC1 : Hid (∀ w', Below (w.heap.size + 2) w5 w' → Calls Try.prog 23 #[.slice (some a1) x0 c1] w' fun e w'' => ∃ A2 c2, e = .returned (.slice A2 x0 c2) ∧ OB w'' w.heap.size 5 A2 x0 c2 (LN.take x0) ∧ Grow w' w'') := Lib.hid fun w' hg => by
            have hb2 : w.heap.size + 2 ≤ w5.heap.size := HB5.out.lt
            refine (clone_any a1 x0 c1 _ w.heap.size w' ((HR5.out.belowAt HG5.out (Nat.le_refl _)).belowAt hg (by omega)) (by have := hg.size; omega) (by have := HX0.out; omega)).mono ?_
            rintro e w'' ⟨A2, c2, he, ho, hg2⟩
            exact ⟨A2, c2, he, ho.mono (by have := hg.size; omega), hg2⟩
          have HC2 : Hid (∀ w', Below (w.heap.size + 2) w5 w' → Calls Try.prog 23 #[.slice (some a2) x4 c2] w' fun e w'' => ∃ A2 c2, e = .returned (.slice A2 x4 c2) ∧ OB w'' w.heap.size 5 A2 x4 c2 (LD.take x4) ∧ Grow w' w'') := Lib.hid fun w' hg => by
            have hb2 : w.heap.size + 2 ≤ w5.heap.size := HB5.out.lt
            refine (clone_any a2 x4 c2 _ w.heap.size w' ((HR6.out.belowAt HG5.out (Nat.le_refl _)).belowAt hg (by omega)) (by have := hg.size; omega) (by have := HX0.out; omega)).mono ?_
            rintro e w'' ⟨A2, c2, he, ho, hg2⟩
            exact ⟨A2, c2, he, ho.mono (by have := hg.size; omega), hg2⟩
          clear HR5 HR6
          refine tr_chain ?_
          repeat (refine chain_take rfl (by rfl) ?_ (fun W hG => ?_) ?_; rotate_left; (have q1 := HS5.out W; have q2 := HS6.out W; go_simp; rfl); simp only [Act.put, List.setIfInBounds_toArray, List.set_cons_zero, List.set_cons_succ])
          clear HS5 HS6
          refine chain_done (tr_both (step_op rfl (by rfl) ?A) (step_op rfl (by rfl) ?B))
          case' A =>
            intro K hK
            go_simp
            refine (HC1.out _ (Below.refl _ _)).mono ?_
            rintro e w6 ⟨A6, c6, rfl, ho6, hg6⟩
            refine hK _ _ (hg6.mono HB5.out.lt) ?_
            clear hK K
            have HN6 := Lib.hid ho6
            have HB6 := Lib.hid (HB5.out.grow hg6)
            have HG6 : Hid (Grow w w6) := HG5.out.trans hg6
            have HL6 : Hid (Below (w.heap.size + 2) w5 w6) := Lib.hid (hg6.mono HB5.out.lt)
            clear ho6 hg6 HC1 HG5 HB5
            refine tr_both (step_op rfl (by rfl) ?A1) (step_op rfl (by rfl) ?A2)
            case' A1 =>
              intro K hK
              go_simp
              refine (HC2.out _ HL6.out).mono ?_
              rintro e w7 ⟨A7, c7, rfl, ho7, hg7⟩
              refine hK _ _ (hg7.mono HB6.out.lt) ?_
              clear hK K
              have HD7 := Lib.hid ho7
              have HN7 := Lib.hid (HN6.out.keep hg7)
              have HB7 := Lib.hid (HB6.out.grow hg7)
              have HG7 : Hid (Grow w w7) := HG6.out.trans hg7
              have HL7 : Hid (Below (w.heap.size + 2) w5 w7) := Lib.hid (HL6.out.trans (hg7.mono HB6.out.lt))
              clear ho7 hg7 HC2 HG6 HB6 HN6 HL6
              refine tr_chain ?_
              refine chain_take rfl (by rfl) ?_ (fun W hG => ?_) ?_; rotate_left; (go_simp; rfl); simp only [Act.put, List.setIfInBounds_toArray, List.set_cons_zero, List.set_cons_succ]
              refine chain_only rfl (by rfl) (fun K hK => ?_)
              go_simp
              refine hK _ _ (Below.alloc (Below.refl _ _) (show w.heap.size + 2 ≤ w7.heap.size from HB7.out.lt) _) ?_
              clear hK K
              have HT8 := Lib.hid (Blk.new w7 41 #[.slice none 0 0, .slice none 0 0, .int .u32 0])
              have HB8 := Lib.hid (HB7.out.alloc (.cells #[.slice none 0 0, .slice none 0 0, .int .u32 0] 41))
              have HL8 : Hid (Below (w.heap.size + 2) w5 (w7.alloc (.cells #[.slice none 0 0, .slice none 0 0, .int .u32 0] 41))) := Lib.hid (HL7.out.trans (Below.alloc (Below.refl _ _) (show w.heap.size + 2 ≤ w7.heap.size from HB7.out.lt) _))
              have HG8 : Hid (Grow w (w7.alloc (.cells #[.slice none 0 0, .slice none 0 0, .int .u32 0] 41))) := HG7.out.trans (Grow.of_alloc _ _)
              have HGe : Hid (w.heap.size + 2 ≤ w7.heap.size) := Lib.hid HB7.out.lt
              have HN8 := Lib.hid (HN7.out.keep (Grow.of_alloc w7 (.cells #[.slice none 0 0, .slice none 0 0, .int .u32 0] 41)))
              have HD8 := Lib.hid (HD7.out.keep (Grow.of_alloc w7 (.cells #[.slice none 0 0, .slice none 0 0, .int .u32 0] 41)))
              generalize w7.alloc _ = w8 at HT8 HB8 HL8 HG8 HN8 HD8 ⊢
              generalize w7.heap.size = g8 at HT8 HGe ⊢
              clear HB7 HG7 HN7 HD7 HL7
            case' A2 =>
              intro K hK
              go_simp
              refine hK _ _ (Below.alloc (Below.refl _ _) (show w.heap.size + 2 ≤ w6.heap.size from HB6.out.lt) _) ?_
              clear hK K
              have HT8 := Lib.hid (Blk.new w6 41 #[.slice none 0 0, .slice none 0 0, .int .u32 0])
              have HB8 := Lib.hid (HB6.out.alloc (.cells #[.slice none 0 0, .slice none 0 0, .int .u32 0] 41))
              have HL8 : Hid (Below (w.heap.size + 2) w5 (w6.alloc (.cells #[.slice none 0 0, .slice none 0 0, .int .u32 0] 41))) := Lib.hid (HL6.out.trans (Below.alloc (Below.refl _ _) (show w.heap.size + 2 ≤ w6.heap.size from HB6.out.lt) _))
              have HG8 : Hid (Grow w (w6.alloc (.cells #[.slice none 0 0, .slice none 0 0, .int .u32 0] 41))) := HG6.out.trans (Grow.of_alloc _ _)
              have HGe : Hid (w.heap.size + 2 ≤ w6.heap.size) := Lib.hid HB6.out.lt
              have HN7 := Lib.hid (HN6.out.keep (Grow.of_alloc w6 (.cells #[.slice none 0 0, .slice none 0 0, .int .u32 0] 41)))
              generalize w6.alloc _ = w7 at HT8 HB8 HL8 HG8 HN7 ⊢
              generalize w6.heap.size = g8 at HT8 HGe ⊢
              clear HB6 HG6 HN6 HL6
              have HT7 := HT8
              have HB7 := HB8
              have HG7 := HG8
              clear HT8 HB8 HG8
              refine tr_chain ?_
              refine chain_only rfl (by rfl) (fun K hK => ?_)
              go_simp
              refine (HC2.out _ HL8.out).mono ?_
              rintro e w8 ⟨A7, c7, rfl, ho7, hg7⟩
              refine hK _ _ (hg7.mono HB7.out.lt) ?_
              clear hK K
              have HD8 := Lib.hid ho7
              have HN8 := Lib.hid (HN7.out.keep hg7)
              have HB8 := Lib.hid (HB7.out.grow hg7)
              have HT8 := Lib.hid (HT7.out.grow hg7)
              have HG8 : Hid (Grow w w8) := HG7.out.trans hg7
              clear ho7 hg7 HC2 HG7 HB7 HN7 HT7
              refine chain_take rfl (by rfl) ?_ (fun W hG => ?_) ?_; rotate_left; (go_simp; rfl); simp only [Act.put, List.setIfInBounds_toArray, List.set_cons_zero, List.set_cons_succ]
          case' B =>
            intro K hK
            go_simp
            have HL5 : Hid (Below (w.heap.size + 2) w5 w5) := Lib.hid (Below.refl _ _)
            refine hK _ _ (Below.alloc (Below.refl _ _) (show w.heap.size + 2 ≤ w5.heap.size from HB5.out.lt) _) ?_
            clear hK K
            have HT8 := Lib.hid (Blk.new w5 41 #[.slice none 0 0, .slice none 0 0, .int .u32 0])
            have HB8 := Lib.hid (HB5.out.alloc (.cells #[.slice none 0 0, .slice none 0 0, .int .u32 0] 41))
            have HL8 : Hid (Below (w.heap.size + 2) w5 (w5.alloc (.cells #[.slice none 0 0, .slice none 0 0, .int .u32 0] 41))) := Lib.hid (HL5.out.trans (Below.alloc (Below.refl _ _) (show w.heap.size + 2 ≤ w5.heap.size from HB5.out.lt) _))
            have HG8 : Hid (Grow w (w5.alloc (.cells #[.slice none 0 0, .slice none 0 0, .int .u32 0] 41))) := HG5.out.trans (Grow.of_alloc _ _)
            have HGe : Hid (w.heap.size + 2 ≤ w5.heap.size) := Lib.hid HB5.out.lt
            generalize w5.alloc _ = w6 at HT8 HB8 HL8 HG8  ⊢
            generalize w5.heap.size = g8 at HT8 HGe ⊢
            clear HB5 HG5  
            have HT6 := HT8
            have HB6 := HB8
            have HG6 := HG8
            have HL6 := HL8
            clear HT8 HB8 HG8 HL8
            refine tr_chain ?_
            refine chain_only rfl (by rfl) (fun K hK => ?_)
            go_simp
            refine (HC1.out _ HL6.out).mono ?_
            rintro e w7 ⟨A6, c6, rfl, ho6, hg6⟩
            refine hK _ _ (hg6.mono HB6.out.lt) ?_
            clear hK K
            have HN7 := Lib.hid ho6
            have HB7 := Lib.hid (HB6.out.grow hg6)
            have HT7 := Lib.hid (HT6.out.grow hg6)
            have HG7 : Hid (Grow w w7) := HG6.out.trans hg6
            have HL7 : Hid (Below (w.heap.size + 2) w5 w7) := Lib.hid (HL6.out.trans (hg6.mono HB6.out.lt))
            clear ho6 hg6 HC1 HG6 HB6 HL6 HT6
            refine chain_only rfl (by rfl) (fun K hK => ?_)
            go_simp
            refine (HC2.out _ HL7.out).mono ?_
            rintro e w8 ⟨A7, c7, rfl, ho7, hg7⟩
            refine hK _ _ (hg7.mono HB7.out.lt) ?_
            clear hK K
            have HD8 := Lib.hid ho7
            have HN8 := Lib.hid (HN7.out.keep hg7)
            have HB8 := Lib.hid (HB7.out.grow hg7)
            have HT8 := Lib.hid (HT7.out.grow hg7)
            have HG8 : Hid (Grow w w8) := HG7.out.trans hg7
            clear ho7 hg7 HC2 HG7 HB7 HN7 HT7 HL7 HL5
            refine chain_take rfl (by rfl) ?_ (fun W hG => ?_) ?_; rotate_left; (go_simp; rfl); simp only [Act.put, List.setIfInBounds_toArray, List.set_cons_zero, List.set_cons_succ]
          all_goals
            refine chain_only rfl (by rfl) (fun K hK => ?_)
            have HC9 : Hid ((#[.slice A6 x0 c6, .slice A7 x4 c7, .int .u32 (x8 : Int)] : Array Value).all (·.oneCell') = true) := Lib.hid (by simp [Value.oneCell'])
            refine wp_store_row 41 (.tmp 17) (.tmp 86) rfl g8 #[.slice A6 x0 c6, .slice A7 x4 c7, .int .u32 (x8 : Int)] rfl rfl _ _ HT8.out (by kernel_rfl) rfl HC9.out ?_
            refine hK _ _ (Below.setRow' _ HGe.out _) ?_
            clear hK K
            have HNt8 : Hid (NtO (w8.setRow g8 #[.slice A6 x0 c6, .slice A7 x4 c7, .int .u32 (x8 : Int)]) w.heap.size 5 #[.slice A6 x0 c6, .slice A7 x4 c7, .int .u32 (x8 : Int)] s) := Lib.hid (by
              rw [HO.out]
              exact ⟨A6, x0, c6, A7, x4, c7, rfl, HN8.out.otherRow HT8.out (by decide) _, HD8.out.otherRow HT8.out (by decide) _⟩)
            have HT9 := Lib.hid (HT8.out.set #[.slice A6 x0 c6, .slice A7 x4 c7, .int .u32 (x8 : Int)])
            have HB9 := Lib.hid (HB8.out.other (show w.heap.size + 1 ≠ g8 by have := HGe.out; omega) #[.slice A6 x0 c6, .slice A7 x4 c7, .int .u32 (x8 : Int)])
            have HG9 : Hid (Grow w (w8.setRow g8 #[.slice A6 x0 c6, .slice A7 x4 c7, .int .u32 (x8 : Int)])) := Grow.set HG8.out (by have := HGe.out; omega) _
            generalize w8.setRow g8 _ = w9 at HNt8 HT9 HB9 HG9 ⊢
            clear HN8 HD8 HT8 HB8 HG8 HO
            refine chain_done (tr_done ?_)
            have HG10 : Hid (Grow w (w9.setRow (w.heap.size + 1) #[.slice A6 x0 c6, .slice A7 x4 c7, .int .u32 (x8 : Int)])) := Grow.set HG9.out (Nat.le_succ _) _
            have HN10 := Lib.hid (HNt8.out.otherRow HB9.out (by decide) #[.slice A6 x0 c6, .slice A7 x4 c7, .int .u32 (x8 : Int)])
            go_wp2_with (first | (refine wpList_load_row rfl 41 (.tmp 17) rfl g8 rfl _ #[.slice A6 x0 c6, .slice A7 x4 c7, .int .u32 (x8 : Int)] (0, 0) _ HT9.out Try.underlying41 rfl (by kernel_rfl) ?_) | (refine wpList_store_row rfl 41 (.tmp 4) (.tmp 87) rfl (w.heap.size + 1) #[.slice A6 x0 c6, .slice A7 x4 c7, .int .u32 (x8 : Int)] rfl rfl _ _ HB9.out (by kernel_rfl) rfl HC9.out ?_))
            exact nrd_ret rfl rfl rfl (HB9.out.set _) rfl HC9.out (fun _ => ⟨rfl, HN10.out⟩) HG10.out
end Go.Proofs.Ytheekcjpphcihaa
