/-
  The walk of bezantlaw04.HeadBack: at any header, any bytes and any cut it returns true, and nothing that was there has changed.
-/
import Derived.Test.YtkohkkgfmkocjaaHeadTellsCore
import Derived.Test.YtkohkkgfmkocjaaHeadBackMath
namespace Go.Proofs.Ytkohkkgfmkocjaa
open Go.RowKit

/-- b[:m] -/
theorem RB.first {w : World} {B : Nat} {A : Option Addr} {n c m : Nat} {l : List UInt8} (h : RB w B A n c l) (hm : m ≤ n) : RB w B A m c (l.take m) :=
  ⟨by have := h.len; simp; omega, by have := h.cap; omega, h.max, fun hp => by
    obtain ⟨b, off, e, hb, hc⟩ := h.pos (by omega)
    exact ⟨b, off, e, hb, fun j hj => by
      have hj2 : j < l.length := by simp at hj; omega
      rw [hc j hj2]; simp⟩⟩

set_option maxRecDepth 100000 in
set_option maxHeartbeats 2000000 in
theorem headBack_core (h : Hd) (ok : h.Ok) (A : Option Addr) (n c : Nat) (l : List UInt8) (z : Int) (w : World) (hr : RB w w.heap.size A n c l) :
    Calls Try.prog 4 #[h.V, .slice A n c, .int .i64 z] w fun e w' => e = .returned (.bool true) ∧ Below w.heap.size w w' := by
  have HR := Lib.hid hr
  have hc := hr.cap
  have hm := hr.max
  unfold maxLen at hm
  have HL := Lib.hid hr.len
  clear hr
  have HP := Lib.hid (fun W => hPut_any h ok W)
  have HZ := Lib.hid (fun W => hSize_any h.wide h.big W)
  have HPT := Lib.hid (fun hf r => put_told h hf r)
  have HCT := Lib.hid (fun k hk => cut_told h k hk)
  have HWF := Lib.hid (wide_fits h ok)
  have HLL := Lib.hid h.lenL
  have hs1 : hSize h.wide < 100 := by cases h.wide <;> decide
  have hs0 : 0 < hSize h.wide := by cases h.wide <;> decide
  unfold HPut at HP
  generalize h.L = L at HP HPT HCT HLL
  generalize rowF h.Q = rf at HP HPT HWF
  generalize hSize h.wide = S at HZ HLL hs1 hs0
  obtain ⟨wide, big, o, a, ty, ma, en, ph, sh, fl, pn, sn, st⟩ := h
  clear ok
  unfold Hd.V Hd.C at HP HPT ⊢
  simp only [] at *
  generalize (o.toNat : Int) = ov at *
  generalize (a.toNat : Int) = av at *
  by_cases hbig : 1000 < n
  · have HBx := Lib.hid (Grow.of_alloc w (.cells #[.bool wide, .bool big, .int .u8 ov, .int .u8 av, .int .u16 (ty : Int), .int .u16 (ma : Int), .int .u64 (en : Int), .int .u64 (ph : Int), .int .u64 (sh : Int), .int .u32 (fl : Int), .int .u16 (pn : Int), .int .u16 (sn : Int), .int .u16 (st : Int)] 30))
    go_enter Try.func4, Try.ntmps4
    go_wp2_with (go_at_call 5; refine (up4_any _).mono ?_; rintro e w1 ⟨rfl, hb1⟩; have HB := Lib.hid hb1; clear hb1)
    go_ret
    exact ⟨rfl, HBx.out.trans HB.out⟩
  · have hd : decide (1000 < (n : Int)) = false := decide_eq_false (by omega)
    go_enter Try.func4, Try.ntmps4
    go_wp2_with fail
    generalize hW : World.alloc _ _ = W0
    obtain ⟨b3, hg0⟩ := blk1 hW
    clear hW
    refine (up4_any _).mono ?_
    rintro e w1 ⟨rfl, hg1⟩
    have HB1 := Lib.hid (b3.grow hg1)
    have HG1 : Hid (Grow w w1) := hg0.trans hg1
    clear hg1 b3 hg0
    obtain ⟨x0, x1, x2, x3, x4, x5, x6, x7, x8, x9, x10, x11, x12⟩ := HB1.out.c13
    go_wp2_with fail
    clear x0 x1 x2 x3 x4 x5 x6 x7 x8 x9 x10 x11 x12
    refine (HP.out _).mono ?_
    rintro e w2 (⟨hf, A2, c2, rfl, ho2, hg2⟩ | ⟨hf, rfl, hg2⟩)
    · have HF := Lib.hid hf
      have HB2 := Lib.hid (HB1.out.grow hg2)
      have HN2 := Lib.hid ho2.rb
      have HG2 : Hid (Grow w w2) := HG1.out.trans hg2
      have HR2 : Hid (RB w2 w.heap.size A n c l) := HR.out.belowAt HG2.out (Nat.le_refl _)
      have hcap2 := ho2.rb.cap
      have hmax2 := ho2.rb.max
      unfold maxLen at hmax2
      rw [HLL.out] at HN2 hcap2 ⊢
      clear hf ho2 hg2 HB1 HG1 HP
      go_wp2_with (first
        | (at_builtin; refine wpList_appendB _ rfl (.tmp 38) (.tmp 39) 31 rfl w2.heap.size 5 Try.underlying31 (by kernel_rfl) _ 0 0 [] rfl (OB.lit w2 w2.heap.size 5 [] (Nat.zero_le _) (Nat.le_refl _)) w2.heap.size A2 S c2 L rfl (HN2.out.belowAt (Grow.of_alloc w2 _) (Nat.le_refl _)) (by omega) (by simp) ?_; intro A3 c3 w3 ho3 hb3; have HO3 := Lib.hid ho3; have HG3 : Hid (Grow w2 w3) := (Grow.of_alloc w2 _).trans' hb3; clear ho3 hb3)
        | (at_builtin; refine wpList_appendB _ rfl (.tmp 40) (.tmp 41) 31 rfl w2.heap.size 5 Try.underlying31 (by kernel_rfl) A3 S c3 ([] ++ L) rfl (by have := HO3.out; rwa [Nat.zero_add] at this) w.heap.size A n c l rfl (HR2.out.belowAt HG3.out HG2.out.size) (by omega) HG3.out.size ?_; intro A4 c4 w4 ho4 hb4; have HO4 := Lib.hid ho4; have HG4 : Hid (Grow w2 w4) := HG3.out.trans' hb4; clear ho4 hb4))
      have HB4 := Lib.hid (HB2.out.grow HG4.out)
      have HN4 : Hid (RB w4 w4.heap.size A2 S c2 L) := HN2.out.grow HG4.out
      have HGw4 : Hid (Grow w w4) := HG2.out.trans HG4.out
      clear HB2 HN2 HG2 HR2 HO3 HG3 HG4
      refine (hGet_any A4 (S + n) c4 _ _ HO4.out.rb).mono ?_
      rintro e w5 ⟨cd, p, v, err, rfl, ht, he, hg5⟩
      rw [List.nil_append] at ht
      obtain ⟨hcd, hpp, hvv⟩ := ht.one (HPT.out HF.out l)
      subst hcd; subst hpp; subst hvv
      obtain rfl := he.nil
      have HB5 := Lib.hid (HB4.out.grow hg5)
      have HN5 : Hid (RB w5 w5.heap.size A2 S c2 L) := HN4.out.grow hg5
      have HG5 : Hid (Grow w w5) := HGw4.out.trans hg5
      clear ht he hg5 HB4 HN4 HGw4 HO4 HPT
      go_wp2_with (refine wpList_store_row rfl 30 (.tmp 10) (.tmp 44) rfl w5.heap.size _ rfl rfl _ _ (Blk.new _ _ _) (by kernel_rfl) rfl (by simp [Value.oneCell']) ?_; rw [World.setRow_alloc_new]; have y := (Blk.new w5 30 #[.bool wide, .bool big, .int .u8 ov, .int .u8 av, .int .u16 (ty : Int), .int .u16 (ma : Int), .int .u64 (en : Int), .int .u64 (ph : Int), .int .u64 (sh : Int), .int .u32 (fl : Int), .int .u16 (pn : Int), .int .u16 (sn : Int), .int .u16 (st : Int)]).c13; have x := (HB5.out.alloc (.cells #[.bool wide, .bool big, .int .u8 ov, .int .u8 av, .int .u16 (ty : Int), .int .u16 (ma : Int), .int .u64 (en : Int), .int .u64 (ph : Int), .int .u64 (sh : Int), .int .u32 (fl : Int), .int .u16 (pn : Int), .int .u16 (sn : Int), .int .u16 (st : Int)] 30)).c13; obtain ⟨y0, y1, y2, y3, y4, y5, y6, y7, y8, y9, y10, y11, y12⟩ := y; obtain ⟨x0, x1, x2, x3, x4, x5, x6, x7, x8, x9, x10, x11, x12⟩ := x)
      clear y0 y1 y2 y3 y4 y5 y6 y7 y8 y9 y10 y11 y12 x0 x1 x2 x3 x4 x5 x6 x7 x8 x9 x10 x11 x12
      generalize hW6 : World.alloc _ _ = w6
      obtain ⟨-, hg6⟩ := blk1 hW6
      have HN6 : Hid (RB w6 w6.heap.size A2 S c2 L) := HN5.out.grow hg6
      have HG6 : Hid (Grow w w6) := HG5.out.trans hg6
      clear hW6 hg6 HB5 HN5 HG5
      refine (HZ.out _).mono ?_
      rintro e w7 ⟨rfl, hg7⟩
      have HN7 : Hid (RB w7 w7.heap.size A2 S c2 L) := HN6.out.grow hg7
      have HG7 : Hid (Grow w w7) := HG6.out.trans hg7
      clear hg7 HN6 HG6
      go_wp2_with fail
      refine (pick_by z S _ hs0 (by omega)).mono ?_
      rintro e w8 ⟨k, hk, rfl, rfl⟩
      have HKT : Hid (HTold (L.take k) 2 k hd0.V) := HCT.out k (by rw [HLL.out]; exact hk)
      have HRk : Hid (RB w7 w7.heap.size A2 k c2 (L.take k)) := HN7.out.first (by omega)
      obtain ⟨b, off, rfl, -, -⟩ := HN7.out.pos hs0
      have z1 : (0 : Int) ≤ (k : Int) := by omega
      have z2 : (k : Int) ≤ (c2 : Int) := by omega
      clear HCT HN7
      go_wp2_with fail
      refine (hGet_any _ k c2 _ _ HRk.out).mono ?_
      rintro e w9 ⟨cd2, p2, v2, err2, rfl, ht, he, hg9⟩
      obtain ⟨hcd, hpp, hvv⟩ := ht.one HKT.out
      subst hcd; subst hpp; subst hvv
      have HE9 := Lib.hid he
      have HG9 : Hid (Grow w w9) := HG7.out.trans hg9
      clear ht he hg9 HG7 HKT HRk z1 z2
      rw [show hd0.V = .agg hd0.C from rfl]
      go_wp2_with (refine wpList_store_row rfl 30 (.tmp 13) (.tmp 71) rfl w9.heap.size hd0.C rfl rfl _ _ (Blk.new _ _ _) (sz_head hd0) rfl hd0.one ?_; rw [World.setRow_alloc_new])
      refine (spot_any err2 2 p2 _ (HE9.out.grow (Grow.of_alloc _ _)) (by omega) (by omega)).mono ?_
      rintro e wa ⟨rfl, hga⟩
      have HGa : Hid (Grow w wa) := (HG9.out.trans (Grow.of_alloc w9 (.cells hd0.C 30))).trans hga
      clear hga HG9 HE9
      go_wp2
      go_ret
      exact ⟨rfl, HGa.out⟩
    · have HF : Hid (wide = false) := by
        cases hw : wide
        · exact Lib.hid rfl
        · rw [HWF.out hw] at hf; cases hf
      have HB2 := Lib.hid (HB1.out.grow hg2)
      have HG2 : Hid (Grow w w2) := HG1.out.trans hg2
      clear hg2 HB1 HG1 hf
      have q0 := HB2.out.at 0
      rw [HF.out] at q0
      have q1 : w2.cell? ⟨w.heap.size, 0, none⟩ = some (.bool false) := q0
      clear q0
      go_wp2
      go_ret
      exact ⟨rfl, HG2.out⟩
end Go.Proofs.Ytkohkkgfmkocjaa
