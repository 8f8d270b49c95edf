/-
  The walk of bezantlaw06.SectTells: at any section header, any bytes and any place it returns true, and nothing that was there has changed.
-/
import Derived.Test.YtfahaefpglnlbaaUp6
import Derived.Test.YtfahaefpglnlbaaRefGetSect
import Derived.Test.YtfahaefpglnlbaaRefSizes
import Derived.Test.YtfahaefpglnlbaaConv
namespace Go.Proofs.Ytfahaefpglnlbaa
open Go.RowKit

/-- What Get tells of bytes, and the error. -/
def scTold (l : List UInt8) (p : Nat) (wide big : Bool) : Sc := if decide (p + sSize wide ≤ l.length) then scOf l p wide big else sc0
theorem sget_one {l : List UInt8} {p : Nat} {wide big : Bool} {w : World} {e : Ending} {w' : World} (h : SGot l p wide big w e w') :
    e = .returned (.tuple #[(scTold l p wide big).V, if decide (p + sSize wide ≤ l.length) then .nilIface else .iface 49 (.int .i64 2)]) ∧ Grow w w' := by
  rcases h with ⟨h, rfl, hg⟩ | ⟨h, rfl, hg⟩
  · have e := decide_eq_true h
    unfold scTold
    rw [e]
    exact ⟨rfl, hg⟩
  · have e : decide (p + sSize wide ≤ l.length) = false := decide_eq_false (by omega)
    unfold scTold
    rw [e]
    exact ⟨rfl, hg⟩
theorem rgets_one {l : List UInt8} {p : Nat} {wide big : Bool} {w : World} {e : Ending} {w' : World} (h : RGotS l p wide big w e w') :
    e = .returned (.tuple #[(scTold l p wide big).V, .bool (decide (p + sSize wide ≤ l.length))]) ∧ Grow w w' := by
  rcases h with ⟨h, rfl, hg⟩ | ⟨h, rfl, hg⟩
  · have e := decide_eq_true h
    unfold scTold
    rw [e]
    exact ⟨rfl, hg⟩
  · have e : decide (p + sSize wide ≤ l.length) = false := decide_eq_false (by omega)
    unfold scTold
    rw [e]
    exact ⟨rfl, hg⟩

set_option maxRecDepth 100000 in
set_option maxHeartbeats 2000000 in
theorem sectTells_core (p : Sc) (ok : p.Ok) (wide big : Bool) (A : Option Addr) (n c : Nat) (l : List UInt8) (q : Nat) (w : World) (hr : RB w w.heap.size A n c l) (hq : q < 18446744073709551616) :
    Calls Try.prog 3 #[p.V, .agg #[.bool wide, .bool big], .slice A n c, .int .u64 q] w fun e w' => e = .returned (.bool true) ∧ Below w.heap.size w w' := by
  have HR := Lib.hid hr
  have hc := hr.cap
  have hm := hr.max
  unfold maxLen at hm
  have HL := Lib.hid hr.len
  clear hr
  have HP := Lib.hid (fun W => sPut_any p ok wide big W)
  have HQ := Lib.hid (fun W => rPutSect_any p ok wide big W)
  have HS := Lib.hid (fun W => sizes_any wide big W)
  have HZ := Lib.hid (fun W => sSize_any wide big W)
  have HGt := Lib.hid (fun W (h : RB W W.heap.size A n c l) => (sGet_any A n c l q wide big W h hq).mono fun e w' hh => sget_one hh)
  have HRt := Lib.hid (fun W (h : RB W W.heap.size A n c l) => (rGetSect_any A n c l q wide big W h hq).mono fun e w' hh => rgets_one hh)
  unfold SPut at HP
  unfold RPutS at HQ
  have HC1 : Hid (p.C.size = 10) := Lib.hid rfl
  unfold Sc.V at HP HQ ⊢
  generalize rowF (p.Q wide) = rf at HP HQ
  generalize p.L wide big = L at HP HQ
  generalize p.C = C at HP HQ HC1 ⊢
  rw [show byWide wide 40 64 = sSize wide from rfl] at HS
  generalize decide (q + sSize wide ≤ l.length) = G at HGt HRt
  obtain ⟨E, hE⟩ : ∃ E, E = if G = true then Value.nilIface else .iface 49 (.int .i64 2) := ⟨_, rfl⟩
  rw [← hE] at HGt
  have HE := Lib.hid hE
  clear hE
  generalize sSize wide = S at HS HZ
  generalize hSize wide = S0 at HS
  generalize byWide wide 32 56 = S2 at HS
  generalize scTold l q wide big = pg at HGt HRt
  obtain ⟨na, ty, fl, ad, off, sz, li, inf, al, en⟩ := pg
  have HV : Hid (Sc.V ⟨na, ty, fl, ad, off, sz, li, inf, al, en⟩ = .agg #[.int .u32 (na : Int), .int .u32 (ty : Int), .int .u64 (fl : Int), .int .u64 (ad : Int), .int .u64 (off : Int), .int .u64 (sz : Int), .int .u32 (li : Int), .int .u32 (inf : Int), .int .u64 (al : Int), .int .u64 (en : Int)]) := rfl
  rw [HV.out] at HGt HRt
  by_cases hbig : 10000 < n
  · go_enter Try.func3, Try.ntmps3
    go_wp2_with (go_at_call 5; refine (up6_any _).mono ?_; rintro e w1 ⟨rfl, hb1⟩; have HB := Lib.hid hb1; clear hb1)
    go_ret
    exact ⟨rfl, ((Grow.of_alloc _ _).trans (Grow.of_alloc _ _)).trans HB.out⟩
  · have hd : decide (10000 < (n : Int)) = false := decide_eq_false (by omega)
    go_enter Try.func3, Try.ntmps3
    go_wp2_with fail
    generalize hW : World.alloc _ _ = W0
    obtain ⟨b1, bf, hg0⟩ := blk2 hW
    clear hW
    refine (up6_any _).mono ?_
    rintro e w1 ⟨rfl, hg1⟩
    have HB1 := Lib.hid (b1.grow hg1)
    have HF1 := Lib.hid (bf.grow hg1)
    have HG1 : Hid (Grow w w1) := hg0.trans hg1
    clear hg1 b1 bf hg0
    obtain ⟨f0, f1⟩ := HF1.out.c2
    go_wp2_with (refine wpList_load_row rfl 25 (.tmp 4) rfl w.heap.size rfl _ C (0, 0) _ HB1.out Try.underlying25 rfl (by rw [HC1.out]; kernel_rfl) ?_)
    clear f0 f1
    refine (HP.out _).mono ?_
    rintro e w3 (⟨hrf, Ac, cc, rfl, hoc3, hg3⟩ | ⟨hrf, rfl, hg3⟩)
    all_goals
      subst hrf
      have HB3 := Lib.hid (HB1.out.grow hg3)
      have HF3 := Lib.hid (HF1.out.grow hg3)
      have HG3 : Hid (Grow w w3) := HG1.out.trans hg3
      obtain ⟨f0, f1⟩ := HF3.out.c2
      clear hg3 HB1 HF1 HG1 HP
    · have HRC3 := Lib.hid hoc3.rb
      clear hoc3
      go_wp2_with (refine wpList_load_row rfl 25 (.tmp 4) rfl w.heap.size rfl _ C (0, 0) _ HB3.out Try.underlying25 rfl (by rw [HC1.out]; kernel_rfl) ?_)
      clear f0 f1
      refine (HQ.out _).mono ?_
      rintro e w4 ⟨Aw, cw, rfl, how4, hg4⟩
      have HF4 := Lib.hid (HF3.out.grow hg4)
      have HG4 : Hid (Grow w w4) := HG3.out.trans hg4
      have HRC4 : Hid (RB w4 w4.heap.size Ac L.length cc L) := HRC3.out.grow hg4
      have HRW4 := Lib.hid how4.rb
      clear how4 hg4 HB3 HF3 HG3 HRC3
      have hs1 := (HRC4.out.conv (Nat.le_refl _)) w4 (Grow.refl _)
      have hs2 := (HRW4.out.conv (Nat.le_refl _)) w4 (Grow.refl _)
      obtain ⟨f0, f1⟩ := HF4.out.c2
      go_wp2_with fail
      clear f0 f1 hs1 hs2 HRC4 HRW4
      refine (HGt.out _ ((HR.out.belowAt HG4.out (Nat.le_refl _)).more HG4.out.size)).mono ?_
      rintro e w5 ⟨rfl, hg5⟩
      have HF5 := Lib.hid (HF4.out.grow hg5)
      have HG5 : Hid (Grow w w5) := HG4.out.trans hg5
      clear hg5 HF4 HG4
      obtain ⟨f0, f1⟩ := (HF5.out.alloc (.cells #[.int .u32 (na : Int), .int .u32 (ty : Int), .int .u64 (fl : Int), .int .u64 (ad : Int), .int .u64 (off : Int), .int .u64 (sz : Int), .int .u32 (li : Int), .int .u32 (inf : Int), .int .u64 (al : Int), .int .u64 (en : Int)] 25)).c2
      go_wp2_with (refine wpList_store_row rfl 25 (.tmp 14) (.tmp 69) rfl w5.heap.size _ rfl rfl _ _ (Blk.new _ _ _) (by kernel_rfl) rfl (by simp [Value.oneCell']) ?_; rw [World.setRow_alloc_new])
      clear f0 f1
      generalize hW6 : World.alloc _ _ = w6
      obtain ⟨bx, hg6⟩ := blk1 hW6
      have HBX6 := Lib.hid bx
      have HF6 := Lib.hid (HF5.out.grow hg6)
      have HG6 : Hid (Grow w w6) := HG5.out.trans hg6
      generalize w5.heap.size = gx at HBX6 ⊢
      clear hW6 bx hg6 HF5 HG5
      refine (HRt.out _ ((HR.out.belowAt HG6.out (Nat.le_refl _)).more HG6.out.size)).mono ?_
      rintro e w7 ⟨rfl, hg7⟩
      have HBX7 := Lib.hid (HBX6.out.grow hg7)
      have HF7 := Lib.hid (HF6.out.grow hg7)
      have HG7 : Hid (Grow w w7) := HG6.out.trans hg7
      clear hg7 HBX6 HF6 HG6
      obtain ⟨f0, f1⟩ := (HF7.out.alloc (.cells #[.int .u32 (na : Int), .int .u32 (ty : Int), .int .u64 (fl : Int), .int .u64 (ad : Int), .int .u64 (off : Int), .int .u64 (sz : Int), .int .u32 (li : Int), .int .u32 (inf : Int), .int .u64 (al : Int), .int .u64 (en : Int)] 25)).c2
      go_wp2_with (refine wpList_store_row rfl 25 (.tmp 16) (.tmp 76) rfl w7.heap.size _ rfl rfl _ _ (Blk.new _ _ _) (by kernel_rfl) rfl (by simp [Value.oneCell']) ?_; rw [World.setRow_alloc_new])
      clear f0 f1
      generalize hW8 : World.alloc _ _ = w8
      obtain ⟨by_, hg8⟩ := blk1 hW8
      have HBY8 := Lib.hid by_
      have HBX8 := Lib.hid (HBX7.out.grow hg8)
      have HF8 := Lib.hid (HF7.out.grow hg8)
      have HG8 : Hid (Grow w w8) := HG7.out.trans hg8
      generalize w7.heap.size = gy at HBY8 ⊢
      clear hW8 by_ hg8 HBX7 HF7 HG7
      refine (HS.out _).mono ?_
      rintro e w9 ⟨rfl, hg9⟩
      have HBY9 := Lib.hid (HBY8.out.grow hg9)
      have HBX9 := Lib.hid (HBX8.out.grow hg9)
      have HF9 := Lib.hid (HF8.out.grow hg9)
      have HG9 : Hid (Grow w w9) := HG8.out.trans hg9
      clear hg9 HBY8 HBX8 HF8 HG8
      have hc7 := HF9.out
      obtain ⟨f0, f1⟩ := HF9.out.c2
      obtain ⟨x0, x1, x2, x3, x4, x5, x6, x7, x8, x9⟩ := HBX9.out.c10
      obtain ⟨y0, y1, y2, y3, y4, y5, y6, y7, y8, y9⟩ := HBY9.out.c10
      have he := HE.out
      clear HE hc7
      cases G
      · simp only [Bool.false_eq_true, if_false] at he
        subst he
        go_wp2_with fail
        refine (code_some 2 (by omega) (by omega) _).mono ?_
        rintro e wb ⟨rfl, rfl⟩
        go_wp2_with fail
        refine (HZ.out _).mono ?_
        rintro e wa ⟨rfl, hga⟩
        have HGa : Hid (Grow w wa) := HG9.out.trans hga
        clear hga
        go_wp2
        go_ret
        exact ⟨rfl, HGa.out⟩
      · simp only [if_true] at he
        subst he
        go_wp2_with fail
        refine (HZ.out _).mono ?_
        rintro e wa ⟨rfl, hga⟩
        have HGa : Hid (Grow w wa) := HG9.out.trans hga
        clear hga
        go_wp2
        go_ret
        exact ⟨rfl, HGa.out⟩
    · go_wp2_with (refine wpList_load_row rfl 25 (.tmp 4) rfl w.heap.size rfl _ C (0, 0) _ HB3.out Try.underlying25 rfl (by rw [HC1.out]; kernel_rfl) ?_)
      clear f0 f1
      refine (HQ.out _).mono ?_
      rintro e w4 ⟨Aw, cw, rfl, how4, hg4⟩
      have HF4 := Lib.hid (HF3.out.grow hg4)
      have HG4 : Hid (Grow w w4) := HG3.out.trans hg4
      clear how4 hg4 HB3 HF3 HG3
      go_wp2_with fail
      refine (code_some 1 (by omega) (by omega) _).mono ?_
      rintro e wb ⟨rfl, rfl⟩
      obtain ⟨f0, f1⟩ := HF4.out.c2
      go_wp2_with fail
      clear f0 f1
      refine (HGt.out _ ((HR.out.belowAt HG4.out (Nat.le_refl _)).more HG4.out.size)).mono ?_
      rintro e w5 ⟨rfl, hg5⟩
      have HF5 := Lib.hid (HF4.out.grow hg5)
      have HG5 : Hid (Grow w w5) := HG4.out.trans hg5
      clear hg5 HF4 HG4
      obtain ⟨f0, f1⟩ := (HF5.out.alloc (.cells #[.int .u32 (na : Int), .int .u32 (ty : Int), .int .u64 (fl : Int), .int .u64 (ad : Int), .int .u64 (off : Int), .int .u64 (sz : Int), .int .u32 (li : Int), .int .u32 (inf : Int), .int .u64 (al : Int), .int .u64 (en : Int)] 25)).c2
      go_wp2_with (refine wpList_store_row rfl 25 (.tmp 14) (.tmp 69) rfl w5.heap.size _ rfl rfl _ _ (Blk.new _ _ _) (by kernel_rfl) rfl (by simp [Value.oneCell']) ?_; rw [World.setRow_alloc_new])
      clear f0 f1
      generalize hW6 : World.alloc _ _ = w6
      obtain ⟨bx, hg6⟩ := blk1 hW6
      have HBX6 := Lib.hid bx
      have HF6 := Lib.hid (HF5.out.grow hg6)
      have HG6 : Hid (Grow w w6) := HG5.out.trans hg6
      generalize w5.heap.size = gx at HBX6 ⊢
      clear hW6 bx hg6 HF5 HG5
      refine (HRt.out _ ((HR.out.belowAt HG6.out (Nat.le_refl _)).more HG6.out.size)).mono ?_
      rintro e w7 ⟨rfl, hg7⟩
      have HBX7 := Lib.hid (HBX6.out.grow hg7)
      have HF7 := Lib.hid (HF6.out.grow hg7)
      have HG7 : Hid (Grow w w7) := HG6.out.trans hg7
      clear hg7 HBX6 HF6 HG6
      obtain ⟨f0, f1⟩ := (HF7.out.alloc (.cells #[.int .u32 (na : Int), .int .u32 (ty : Int), .int .u64 (fl : Int), .int .u64 (ad : Int), .int .u64 (off : Int), .int .u64 (sz : Int), .int .u32 (li : Int), .int .u32 (inf : Int), .int .u64 (al : Int), .int .u64 (en : Int)] 25)).c2
      go_wp2_with (refine wpList_store_row rfl 25 (.tmp 16) (.tmp 76) rfl w7.heap.size _ rfl rfl _ _ (Blk.new _ _ _) (by kernel_rfl) rfl (by simp [Value.oneCell']) ?_; rw [World.setRow_alloc_new])
      clear f0 f1
      generalize hW8 : World.alloc _ _ = w8
      obtain ⟨by_, hg8⟩ := blk1 hW8
      have HBY8 := Lib.hid by_
      have HBX8 := Lib.hid (HBX7.out.grow hg8)
      have HF8 := Lib.hid (HF7.out.grow hg8)
      have HG8 : Hid (Grow w w8) := HG7.out.trans hg8
      generalize w7.heap.size = gy at HBY8 ⊢
      clear hW8 by_ hg8 HBX7 HF7 HG7
      refine (HS.out _).mono ?_
      rintro e w9 ⟨rfl, hg9⟩
      have HBY9 := Lib.hid (HBY8.out.grow hg9)
      have HBX9 := Lib.hid (HBX8.out.grow hg9)
      have HF9 := Lib.hid (HF8.out.grow hg9)
      have HG9 : Hid (Grow w w9) := HG8.out.trans hg9
      clear hg9 HBY8 HBX8 HF8 HG8
      have hc7 := HF9.out
      obtain ⟨f0, f1⟩ := HF9.out.c2
      obtain ⟨x0, x1, x2, x3, x4, x5, x6, x7, x8, x9⟩ := HBX9.out.c10
      obtain ⟨y0, y1, y2, y3, y4, y5, y6, y7, y8, y9⟩ := HBY9.out.c10
      have he := HE.out
      clear HE hc7
      cases G
      · simp only [Bool.false_eq_true, if_false] at he
        subst he
        go_wp2_with fail
        refine (code_some 2 (by omega) (by omega) _).mono ?_
        rintro e wb ⟨rfl, rfl⟩
        go_wp2_with fail
        refine (HZ.out _).mono ?_
        rintro e wa ⟨rfl, hga⟩
        have HGa : Hid (Grow w wa) := HG9.out.trans hga
        clear hga
        go_wp2
        go_ret
        exact ⟨rfl, HGa.out⟩
      · simp only [if_true] at he
        subst he
        go_wp2_with fail
        refine (HZ.out _).mono ?_
        rintro e wa ⟨rfl, hga⟩
        have HGa : Hid (Grow w wa) := HG9.out.trans hga
        clear hga
        go_wp2
        go_ret
        exact ⟨rfl, HGa.out⟩
end Go.Proofs.Ytfahaefpglnlbaa
