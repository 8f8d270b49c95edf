/-
  The walk of bezantlaw04.HeadTells: at any header and any bytes it returns true, and nothing that was there has changed.
-/
import Derived.Test.YtkohkkgfmkocjaaUp4
import Derived.Test.YtkohkkgfmkocjaaRefGetHead
namespace Go.Proofs.Ytkohkkgfmkocjaa
open Go.RowKit

theorem HTold.val {l : List UInt8} {c p : Nat} {v : Value} (h : HTold l c p v) : ∃ h' : Hd, v = h'.V := by
  rcases h with ⟨_, _, rfl⟩ | ⟨_, _, rfl⟩
  · exact ⟨_, rfl⟩
  · by_cases e : c = 0
    · exact ⟨hdOf l, by rw [if_pos e]⟩
    · exact ⟨hd0, by rw [if_neg e]⟩
theorem HTold.le {l : List UInt8} {c p : Nat} {v : Value} (h : HTold l c p v) : c ≤ 4 ∧ p ≤ l.length + 64 := by
  rcases h with ⟨_, h, _⟩ | ⟨_, h, _⟩
  · have := h.le; omega
  · exact h.le

/-- The two answers of Put: both bytes, or both none. -/
theorem put_both {h : Hd} {w : World} {e : Ending} {w' : World} (hp : HPut h w e w') : ∃ A n c E, e = .returned (.tuple #[.slice A n c, E]) ∧ Grow w w' ∧ RB w' w'.heap.size A n c (if rowF h.Q then h.L else []) ∧ ((rowF h.Q = true ∧ E = .nilIface) ∨ (rowF h.Q = false ∧ E = .iface 58 (.int .i64 1))) := by
  rcases hp with ⟨hf, A, c, rfl, ho, hg⟩ | ⟨hf, rfl, hg⟩
  · exact ⟨A, _, c, _, rfl, hg, by rw [hf]; exact ho.rb, .inl ⟨hf, rfl⟩⟩
  · exact ⟨none, 0, 0, _, rfl, hg, by rw [hf]; exact RB.nil, .inr ⟨hf, rfl⟩⟩
theorem rput_both {h : Hd} {w : World} {e : Ending} {w' : World} (hp : RPut h w e w') : ∃ A n c, e = .returned (.tuple #[.slice A n c, .bool (rowF h.Q)]) ∧ Grow w w' ∧ RB w' w'.heap.size A n c (if rowF h.Q then h.L else []) := by
  rcases hp with ⟨hf, A, c, rfl, ho, hg⟩ | ⟨hf, rfl, hg⟩
  · exact ⟨A, _, c, by rw [hf], hg, by rw [hf]; exact ho.rb⟩
  · exact ⟨none, 0, 0, by rw [hf], hg, by rw [hf]; exact RB.nil⟩
theorem RB.grow {w w' : World} {A : Option Addr} {n c : Nat} {l : List UInt8} (h : RB w w.heap.size A n c l) (hg : Grow w w') : RB w' w'.heap.size A n c l := (h.belowAt hg (Nat.le_refl _)).more hg.size

set_option maxRecDepth 100000 in
set_option maxHeartbeats 2000000 in
theorem headTells_core (h : Hd) (ok : h.Ok) (A : Option Addr) (n c : Nat) (l : List UInt8) (w : World) (hr : RB w w.heap.size A n c l) :
    Calls Try.prog 3 #[h.V, .slice A n c] w fun e w' => e = .returned (.bool true) ∧ Below w.heap.size w w' := by
  have HR := Lib.hid hr
  have hc := hr.cap
  have hm := hr.max
  unfold maxLen at hm
  have HL := Lib.hid hr.len
  clear hr
  have HP := Lib.hid (fun W => (hPut_any h ok W).mono fun e w' hh => put_both hh)
  have HQ := Lib.hid (fun W => (rPut_any h ok W).mono fun e w' hh => rput_both hh)
  have HS := Lib.hid (fun W => sizes_any h.wide h.big W)
  have HZ := Lib.hid (fun W => hSize_any h.wide h.big W)
  have HC1 : Hid (h.C.size = 13) := Lib.hid rfl
  have HBx := Lib.hid (fun W => Blk.new W 30 h.C)
  have HFc : Hid (∀ W g, Blk W g 30 h.C → W.cell? ⟨g, 0, none⟩ = some (.bool h.wide) ∧ W.cell? ⟨g, 1, none⟩ = some (.bool h.big)) := fun W g hb => ⟨hb.at 0, hb.at 1⟩
  unfold Hd.V at HP HQ ⊢
  generalize rowF h.Q = rf at HP HQ
  generalize (if rf = true then h.L else []) = L at HP HQ
  generalize h.C = C at HP HQ HC1 HBx HFc ⊢
  generalize h.wide = wide at HS HZ HFc
  generalize h.big = big at HS HZ HFc
  generalize hSize wide = S at HS HZ
  by_cases hbig : 10000 < n
  · go_enter Try.func3, Try.ntmps3
    go_wp2_with (go_at_call 5; refine (up4_any _).mono ?_; rintro e w1 ⟨rfl, hb1⟩; have HB := Lib.hid hb1; clear hb1)
    go_ret
    exact ⟨rfl, (Grow.of_alloc w (.cells C 30)).trans HB.out⟩
  · have hd : decide (10000 < (n : Int)) = false := decide_eq_false (by omega)
    go_enter Try.func3, Try.ntmps3
    go_wp2_with fail
    refine (up4_any _).mono ?_
    rintro e w1 ⟨rfl, hg1⟩
    have HB1 := Lib.hid ((HBx.out w).grow hg1)
    have HG1 : Hid (Grow w w1) := (Grow.of_alloc _ _).trans hg1
    clear hg1
    obtain ⟨f0, f1⟩ := HFc.out _ _ HB1.out
    go_wp2_with fail
    clear f0 f1
    refine (HS.out _).mono ?_
    rintro e w2 ⟨rfl, hg2⟩
    have HB2 := Lib.hid (HB1.out.grow hg2)
    have HG2 : Hid (Grow w w2) := HG1.out.trans hg2
    clear hg2 HB1 HG1
    go_wp2_with (refine wpList_load_row rfl 30 (.tmp 2) rfl w.heap.size rfl _ C (0, 0) _ HB2.out Try.underlying30 rfl (by rw [HC1.out]; kernel_rfl) ?_)
    refine (HP.out _).mono ?_
    rintro e w3 ⟨Ac, nc, cc, E, rfl, hg3, hrc3, hE⟩
    have HE := Lib.hid hE
    have HRC3 := Lib.hid hrc3
    have HB3 := Lib.hid (HB2.out.grow hg3)
    have HG3 : Hid (Grow w w3) := HG2.out.trans hg3
    clear hg3 HB2 HG2 hE hrc3
    go_wp2_with (refine wpList_load_row rfl 30 (.tmp 2) rfl w.heap.size rfl _ C (0, 0) _ HB3.out Try.underlying30 rfl (by rw [HC1.out]; kernel_rfl) ?_)
    refine (HQ.out _).mono ?_
    rintro e w4 ⟨Aw, nw, cw, rfl, hg4, hrw4⟩
    have HRW4 := Lib.hid hrw4
    have HRC4 := Lib.hid (HRC3.out.grow hg4)
    have HB4 := Lib.hid (HB3.out.grow hg4)
    have HG4 : Hid (Grow w w4) := HG3.out.trans hg4
    clear hg4 HB3 HG3 HRC3 hrw4 HP HQ
    go_wp2_with fail
    refine (hGet_any A n c l _ ((HR.out.belowAt HG4.out (Nat.le_refl _)).more HG4.out.size)).mono ?_
    rintro e w5 ⟨cd, p, v, err, rfl, ht, he, hg5⟩
    have HT := Lib.hid ht
    have HEr := Lib.hid he
    have HRW5 := Lib.hid (HRW4.out.grow hg5)
    have HRC5 := Lib.hid (HRC4.out.grow hg5)
    have HB5 := Lib.hid (HB4.out.grow hg5)
    have HG5 : Hid (Grow w w5) := HG4.out.trans hg5
    clear ht he hg5 HRW4 HRC4 HB4 HG4
    obtain ⟨h', hv⟩ := HT.out.val
    obtain ⟨⟨wi', bi', o', a', ty', ma', en', ph', sh', fl', pn', sn', st'⟩, rfl⟩ := HT.out.val
    clear h' hv
    have HV : Hid (Hd.V ⟨wi', bi', o', a', ty', ma', en', ph', sh', fl', pn', sn', st'⟩ = .agg #[.bool wi', .bool bi', .int .u8 (o'.toNat : Int), .int .u8 (a'.toNat : Int), .int .u16 (ty' : Int), .int .u16 (ma' : Int), .int .u64 (en' : Int), .int .u64 (ph' : Int), .int .u64 (sh' : Int), .int .u32 (fl' : Int), .int .u16 (pn' : Int), .int .u16 (sn' : Int), .int .u16 (st' : Int)]) := rfl
    rw [HV.out]
    generalize (o'.toNat : Int) = ov at HV ⊢
    generalize (a'.toNat : Int) = av at HV ⊢
    go_wp2_with (refine wpList_store_row rfl 30 (.tmp 13) (.tmp 46) rfl w5.heap.size _ rfl rfl _ _ (Blk.new _ _ _) (by kernel_rfl) rfl (by simp [Value.oneCell']) ?_; rw [World.setRow_alloc_new])
    generalize hW6 : World.alloc _ _ = w6
    obtain ⟨bx, hg6⟩ := blk1 hW6
    have HBX6 := Lib.hid bx
    have HB6 := Lib.hid (HB5.out.grow hg6)
    have HRW6 := Lib.hid (HRW5.out.grow hg6)
    have HRC6 := Lib.hid (HRC5.out.grow hg6)
    have HEr6 := Lib.hid (HEr.out.grow hg6)
    have HG6 : Hid (Grow w w6) := HG5.out.trans hg6
    generalize w5.heap.size = gx at HBX6 ⊢
    clear hW6 bx hg6 HB5 HRW5 HRC5 HEr HG5
    refine (rGet_any A n c l _ ((HR.out.belowAt HG6.out (Nat.le_refl _)).more HG6.out.size)).mono ?_
    rintro e w7 ⟨cd', p', v', rfl, ht', hg7⟩
    obtain ⟨hcd, hpp, hvv⟩ := HT.out.one ht'
    subst hcd; subst hpp; subst hvv
    rw [HV.out]
    have HBX7 := Lib.hid (HBX6.out.grow hg7)
    have HB7 := Lib.hid (HB6.out.grow hg7)
    have HRW7 := Lib.hid (HRW6.out.grow hg7)
    have HRC7 := Lib.hid (HRC6.out.grow hg7)
    have HEr7 := Lib.hid (HEr6.out.grow hg7)
    have HG7 : Hid (Grow w w7) := HG6.out.trans hg7
    clear ht' hg7 HBX6 HB6 HRW6 HRC6 HEr6 HG6
    go_wp2_with (refine wpList_store_row rfl 30 (.tmp 15) (.tmp 51) rfl w7.heap.size _ rfl rfl _ _ (Blk.new _ _ _) (by kernel_rfl) rfl (by simp [Value.oneCell']) ?_; rw [World.setRow_alloc_new])
    generalize hW8 : World.alloc _ _ = w8
    obtain ⟨by_, hg8⟩ := blk1 hW8
    have HBY8 := Lib.hid by_
    have HBX8 := Lib.hid (HBX7.out.grow hg8)
    have HB8 := Lib.hid (HB7.out.grow hg8)
    have HRW8 := Lib.hid (HRW7.out.grow hg8)
    have HRC8 := Lib.hid (HRC7.out.grow hg8)
    have HG8 : Hid (Grow w w8) := HG7.out.trans hg8
    have hle := HT.out.le
    have hln := HL.out
    refine (spot_any err cd p _ (HEr7.out.grow hg8) (by omega) (by omega)).mono ?_
    rintro e w9 ⟨rfl, hg9⟩
    generalize w7.heap.size = gy at HBY8 ⊢
    have HBY9 := Lib.hid (HBY8.out.grow hg9)
    have HBX9 := Lib.hid (HBX8.out.grow hg9)
    have HB9 := Lib.hid (HB8.out.grow hg9)
    have HRW9 := Lib.hid (HRW8.out.grow hg9)
    have HRC9 := Lib.hid (HRC8.out.grow hg9)
    have HG9 : Hid (Grow w w9) := HG8.out.trans hg9
    clear hW8 by_ hg8 hg9 HBX7 HB7 HRW7 HRC7 HEr7 HG7 HBY8 HBX8 HB8 HRW8 HRC8 HG8 hle hln
    obtain ⟨f0, f1⟩ := HFc.out _ _ HB9.out
    go_wp2_with fail
    clear f0 f1
    refine (HZ.out _).mono ?_
    rintro e wa ⟨rfl, hga⟩
    have HBYa := Lib.hid (HBY9.out.grow hga)
    have HBXa := Lib.hid (HBX9.out.grow hga)
    have HRWa := Lib.hid (HRW9.out.grow hga)
    have HRCa := Lib.hid (HRC9.out.grow hga)
    have HGa : Hid (Grow w wa) := HG9.out.trans hga
    clear hga HBY9 HBX9 HB9 HRW9 HRC9 HG9
    have hs1 := (HRCa.out.conv (Nat.le_refl _)) wa (Grow.refl _)
    have hs2 := (HRWa.out.conv (Nat.le_refl _)) wa (Grow.refl _)
    obtain ⟨x0, x1, x2, x3, x4, x5, x6, x7, x8, x9, x10, x11, x12⟩ := HBXa.out.c13
    obtain ⟨y0, y1, y2, y3, y4, y5, y6, y7, y8, y9, y10, y11, y12⟩ := HBYa.out.c13
    rcases HE.out with ⟨rfl, rfl⟩ | ⟨rfl, rfl⟩
    · go_wp2
      go_ret
      exact ⟨rfl, HGa.out⟩
    · go_wp2_with fail
      refine (code_some 1 (by omega) (by omega) _).mono ?_
      rintro e wb ⟨rfl, rfl⟩
      go_wp2
      go_ret
      exact ⟨rfl, HGa.out⟩
end Go.Proofs.Ytkohkkgfmkocjaa
