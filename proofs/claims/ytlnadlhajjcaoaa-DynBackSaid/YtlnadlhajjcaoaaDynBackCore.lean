/-
  The walk of bezantlaw10.DynBack: at any entries and bytes it returns true, and nothing that was there has changed.
-/
import Derived.Test.YtlnadlhajjcaoaaUp10
import Derived.Test.YtlnadlhajjcaoaaDyPut
import Derived.Test.YtlnadlhajjcaoaaDySame
import Derived.Test.YtlnadlhajjcaoaaZero
import Derived.Test.YtlnadlhajjcaoaaCutIn
namespace Go.Proofs.Ytlnadlhajjcaoaa
open Go.RowKit

theorem ZS.few {w : World} {B z : Nat} {A : Option Addr} {n c m : Nat} {l : List (Array Value)} (h : ZS w B z A n c l) (hm : m ≤ n) : ZS w B z A m c (l.take m) :=
  ⟨by have := h.len; rw [List.length_take]; omega, by have := h.cap; omega, h.max, fun r hr => h.size r (List.mem_of_mem_take hr), fun hp => by
    obtain ⟨b, off, e, hb, hc⟩ := h.pos (by omega)
    exact ⟨b, off, e, hb, fun j hj i v hv => by
      have hj2 : j < l.length := by rw [List.length_take] at hj; omega
      rw [List.getElem_take] at hv
      exact hc j hj2 i v hv⟩⟩
theorem ZS.none {w : World} {B z : Nat} {A : Option Addr} {c : Nat} (hc : c ≤ maxLen) : ZS w B z A 0 c [] := ⟨rfl, Nat.zero_le _, hc, fun _ h => absurd h (by simp), fun h => absurd h (by omega)⟩

/-- All, at what Put told with 0s and anything behind it. -/
theorem dAll_zeros (L : List Dy) (hL : L.length ≤ 100) (wide big : Bool) (l : List UInt8) (hl : l.length ≤ 1000) (hf : rowF (dynQ wide L) = true) (A : Option Addr) (c : Nat) (w : World)
    (h : RB w w.heap.size A ((rowB big (dynQ wide L)).length + 16 + l.length) c (rowB big (dynQ wide L) ++ List.replicate 16 0 ++ l)) :
    Calls Try.prog 9 #[.slice A ((rowB big (dynQ wide L)).length + 16 + l.length) c, .agg #[.bool wide, .bool big]] w fun e w' =>
      ∃ A2 c2, e = .returned (.tuple #[.slice A2 (firstZ L) c2, .nilIface]) ∧ ZS w' w'.heap.size 2 A2 (firstZ L) c2 ((L.take (firstZ L)).map Dy.C) ∧ Grow w w' := by
  obtain ⟨h1, h2, h3⟩ := dyns_zeros L wide big l hf
  have hlen : (rowB big (dynQ wide L) ++ List.replicate 16 0 ++ l).length ≤ 10000 := by
    simp only [List.length_append, dynL_len, List.length_replicate]
    have := Nat.mul_le_mul hL (dySize_le wide)
    omega
  refine (dAll_any A _ c _ wide big w h hlen).mono ?_
  rintro e w' (⟨-, A2, c2, rfl, hz, hg⟩ | ⟨hn, -⟩)
  · rw [h2, h3] at hz
    rw [h3]
    exact ⟨A2, c2, rfl, hz, hg⟩
  · rw [h1] at hn; cases hn
/-- All, at just what Put told. -/
theorem dAll_bare (L : List Dy) (hL : L.length ≤ 100) (wide big : Bool) (hf : rowF (dynQ wide L) = true) (A : Option Addr) (c : Nat) (w : World)
    (h : RB w w.heap.size A (rowB big (dynQ wide L)).length c (rowB big (dynQ wide L))) :
    Calls Try.prog 9 #[.slice A (rowB big (dynQ wide L)).length c, .agg #[.bool wide, .bool big]] w fun e w' =>
      ∃ X er, e = .returned (.tuple #[X, er]) ∧ ((firstZ L < L.length ∧ er = .nilIface) ∨ (L.length ≤ firstZ L ∧ ∃ b, er = .iface 56 (.pointer (some ⟨b, 0, none⟩)))) ∧ Grow w w' := by
  have h1 := dyns_bare L wide big hf
  have hlen : (rowB big (dynQ wide L)).length ≤ 10000 := by
    rw [dynL_len]
    have := Nat.mul_le_mul hL (dySize_le wide)
    omega
  refine (dAll_any A _ c _ wide big w h hlen).mono ?_
  rintro e w' (⟨hi, A2, c2, rfl, hz, hg⟩ | ⟨hi, er, rfl, he, hg⟩)
  · rw [h1] at hi
    exact ⟨_, _, rfl, .inl ⟨of_decide_eq_true hi, rfl⟩, hg⟩
  · rw [h1] at hi
    have hi2 := of_decide_eq_false hi
    rcases he with ⟨h0, -⟩ | ⟨-, b, rfl, -⟩
    · omega
    · exact ⟨_, _, rfl, .inr ⟨by omega, b, rfl⟩, hg⟩

set_option maxRecDepth 100000 in
set_option maxHeartbeats 2000000 in
theorem dynBack_core (A : Option Addr) (n c : Nat) (L : List Dy) (wide big : Bool) (A2 : Option Addr) (n2 c2 : Nat) (l : List UInt8) (w : World)
    (h : ZS w w.heap.size 2 A n c (L.map Dy.C)) (hok : ∀ s ∈ L, s.Ok) (h2 : RB w w.heap.size A2 n2 c2 l) :
    Calls Try.prog 4 #[.slice A n c, .agg #[.bool wide, .bool big], .slice A2 n2 c2] w fun e w' => e = .returned (.bool true) ∧ Below w.heap.size w w' := by
  obtain rfl : n = L.length := by have := h.len; simpa using this
  obtain rfl := h2.len
  have HS := Lib.hid h
  have HR2 := Lib.hid h2
  have hcp := h.cap
  have hmx := h.max
  clear h h2
  by_cases hbig : 100 < L.length ∨ 1000 < l.length
  · clear hok
    by_cases b1 : 100 < L.length
    · have d1 : decide (100 < (L.length : Int)) = true := decide_eq_true (by omega)
      clear hbig
      go_enter Try.func4, Try.ntmps4
      go_wp2_with (go_at_call 5; refine (up10_any _).mono ?_; rintro e w1 ⟨rfl, hb1⟩; have HB := Lib.hid hb1; clear hb1)
      go_ret
      exact ⟨rfl, (Grow.of_alloc _ _).trans HB.out⟩
    have d1 : decide (100 < (L.length : Int)) = false := decide_eq_false (by omega)
    have d2 : decide (1000 < (l.length : Int)) = true := decide_eq_true (by omega)
    clear hbig
    go_enter Try.func4, Try.ntmps4
    go_wp2_with (go_at_call 5; refine (up10_any _).mono ?_; rintro e w1 ⟨rfl, hb1⟩; have HB := Lib.hid hb1; clear hb1)
    go_ret
    exact ⟨rfl, (Grow.of_alloc _ _).trans HB.out⟩
  · have d1 : decide (100 < (L.length : Int)) = false := decide_eq_false (by omega)
    have d2 : decide (1000 < (l.length : Int)) = false := decide_eq_false (by omega)
    have hL : L.length ≤ 100 := by omega
    have hl : l.length ≤ 1000 := by omega
    have HP := Lib.hid (fun W (h : ZS W W.heap.size 2 A L.length c (L.map Dy.C)) => dPut_any A L.length c L hok (by omega) wide big W h)
    have HA := Lib.hid (fun (hf : rowF (dynQ wide L) = true) Ac cc W h => dAll_zeros L hL wide big l hl hf Ac cc W h)
    have HD := Lib.hid (fun (hf : rowF (dynQ wide L) = true) Ac cc W h => dAll_bare L hL wide big hf Ac cc W h)
    have HPl : Hid ((rowB big (dynQ wide L)).length ≤ 1600) := Lib.hid (by rw [dynL_len]; exact Nat.mul_le_mul hL (dySize_le wide))
    have HWi : Hid (rowF (dynQ wide L) = false → wide = false) := Lib.hid (by
      intro hf
      cases wide
      · rfl
      · rw [dyn_all_fit hok] at hf; cases hf)
    have HFz := Lib.hid (fun k (hk : k ≤ firstZ L) => firstZ_is hk)
    have HZle := Lib.hid (firstZ_le L)
    have HCell := Lib.hid (fun (W : World) (b off : Nat) (h : ZS W W.heap.size 2 (some ⟨b, off, none⟩) L.length c (L.map Dy.C)) k (hk : k < L.length) => h.dy k hk _ rfl)
    have HLow : Hid (∀ W : World, ZS W W.heap.size 2 A L.length c (L.map Dy.C) → ZS W W.heap.size 2 A (firstZ L) c ((L.take (firstZ L)).map Dy.C)) := Lib.hid (fun W h => by
      have := h.few (firstZ_le L)
      rwa [← List.map_take] at this)
    have HSm : Hid (∀ (A A' : Option Addr) (c c' : Nat) (w : World), ZS w w.heap.size 2 A (firstZ L) c ((L.take (firstZ L)).map Dy.C) → ZS w w.heap.size 2 A' (firstZ L) c' ((L.take (firstZ L)).map Dy.C) → Calls Try.prog 14 #[.slice A (firstZ L) c, .slice A' (firstZ L) c'] w fun e w' => e = .returned (.int .i64 1) ∧ Grow w w') :=
      Lib.hid (fun A A' c c' w h h' => sameD_any A A' _ c _ c' (L.take (firstZ L)) _ _ w h h')
    have HE0 : Hid (L.length = 0 → (L.take (firstZ L)).map Dy.C = []) := Lib.hid (fun h => by rw [List.eq_nil_of_length_eq_zero h]; rfl)
    unfold DPut at HP
    generalize rowF (dynQ wide L) = rf at HP HA HD HWi
    generalize rowB big (dynQ wide L) = P at HP HA HD HPl
    generalize firstZ L = z at HA HD HFz HZle HLow HSm HE0
    generalize (L.take z).map Dy.C = M2 at HA HLow HSm HE0
    clear hbig hok
    go_enter Try.func4, Try.ntmps4
    go_wp2_with fail
    generalize hW : World.alloc _ _ = W0
    obtain ⟨bf, hg0⟩ := blk1 hW
    clear hW
    refine (up10_any _).mono ?_
    rintro e w1 ⟨rfl, hg1⟩
    have HF1 := Lib.hid (bf.grow hg1)
    have HG1 : Hid (Grow w w1) := hg0.trans hg1
    clear hg1 bf hg0
    go_wp2_with fail
    refine wp_cut_in (fun a a' w' => (Blk w' w.heap.size 24 #[.bool wide, .bool big] ∧ Grow w w') ∧ a' = ⟨((a.tmps.toList.take 25 ++ (a'.tmps.toList.drop 25).take 14 ++ a.tmps.toList.drop 39).toArray).setIfInBounds 8 (.int .i64 (z : Int)), a.defers⟩ ∧ ((a'.tmps.toList.drop 25).take 14).length = 14) ?_ ?_
    · clear d1 d2 HP HA HD HPl HWi HLow HSm HE0 hl HR2
      go_loopw [8] (fun i wr => ∃ k : Nat, k ≤ z ∧ i = .int .i64 k ∧ Blk wr w.heap.size 24 #[.bool wide, .bool big] ∧ Grow w wr) (fun i _ => L.length - (intOf i).toNat)
      case atStart => exact ⟨0, Nat.zero_le _, rfl, HF1.out, HG1.out⟩
      case round =>
        obtain ⟨k, hk, rfl, hbf, hg⟩ := hrel
        have HF := Lib.hid hbf
        have HG := Lib.hid hg
        clear hbf hg HF1 HG1
        obtain ⟨hz1, hz2, hz3⟩ := HFz.out k hk
        by_cases hlt : k < L.length
        · obtain ⟨b, off, rfl, -, -⟩ := HS.out.pos (by omega)
          obtain ⟨p0, -⟩ := HCell.out wr b off (HS.out.grow HG.out) k hlt
          have i0 : (0 : Int) ≤ (k : Int) := by omega
          have i1 : (k : Int) < (L.length : Int) := by omega
          by_cases ht : L[k].tag = 0
          · obtain rfl := hz2 hlt ht
            rw [ht] at p0
            have p0' : wr.cell? ⟨b, off + z * 2, none⟩ = some (.int .u64 0) := p0
            clear hz1 hz2 hz3 ht p0 HFz HCell
            go_wp2
            exact ⟨trivial, ⟨HF.out, HG.out⟩, rfl, rfl⟩
          · have hk1 := hz3 hlt ht
            have d3 : ((L[k].tag : Int) != 0) = true := by simp; omega
            generalize L[k].tag = tag at p0 d3
            clear hz1 hz2 hz3 ht HFz HCell
            go_wp2
            go_roundw
            case rel => exact ⟨k + 1, hk1, by go_num, HF.out, HG.out⟩
            case measure => simp [intOf]; omega
        · obtain rfl := hz1 (by omega)
          have i1 : ¬ (z : Int) < (L.length : Int) := by omega
          clear hz1 hz2 hz3 HFz HCell
          go_wp2
          exact ⟨HF.out, HG.out⟩
    · rintro a' wr ⟨⟨hbf, hg⟩, ha, hl14⟩
      generalize (a'.tmps.toList.drop 25).take 14 = vs at ha hl14
      obtain ⟨v0, v1, v2, v3, v4, v5, v6, v7, v8, v9, v10, v11, v12, v13, rfl⟩ := list14 hl14
      subst ha
      clear hl14
      have HF2 := Lib.hid hbf
      have HG2 := Lib.hid hg
      clear hbf hg HF1 HG1 HFz HCell
      apply_assumption
      simp only [List.take_succ_cons, List.take_zero, List.drop_succ_cons, List.drop_zero, List.cons_append, List.nil_append, List.setIfInBounds_toArray, List.set_cons_succ, List.set_cons_zero]
      obtain ⟨f0, f1⟩ := HF2.out.c2
      go_wp2_with fail
      clear f0 f1
      refine (HP.out _ (HS.out.grow HG2.out)).mono ?_
      rintro e w3 (⟨hrf, Ac, cc, rfl, hoc3, hg3⟩ | ⟨hrf, rfl, hg3⟩)
      rotate_left
      · obtain rfl := HWi.out hrf
        have HF3 := Lib.hid (HF2.out.grow hg3)
        have HG3 : Hid (Grow w w3) := HG2.out.trans hg3
        clear hg3 HF2 HG2
        obtain ⟨f0, f1⟩ := HF3.out.c2
        go_wp2
        go_ret
        exact ⟨rfl, HG3.out⟩
      have HRC3 := Lib.hid hoc3.rb
      have HF3 := Lib.hid (HF2.out.grow hg3)
      have HG3 : Hid (Grow w w3) := HG2.out.trans hg3
      have HA2 := Lib.hid (HA.out hrf)
      have HD2 := Lib.hid (HD.out hrf)
      clear hg3 hoc3 HF2 HG2 HP HA HD HWi hrf
      go_wp2_with fail
      refine wp_region_leap (leap_below w3.heap.size) [(1, true), (4, true), (6, true), (0, false), (2, false), (3, false), (5, false), (7, false), (8, true), (9, true), (10, true), (11, true), (12, true)] (by kernel_rfl) (by kernel_rfl) (by kernel_rfl) ?_
      have HX : Hid (∀ W, Below w3.heap.size w3.drew W → _ ∧ _) := fun W hW => ((HF3.out.drew).below hW HF3.out.lt).c2
      have HF4 := Lib.hid HF3.out.drew
      have HRC4 : Hid (RB w3.drew w3.heap.size Ac P.length cc P) := HRC3.out.drew
      have HG4 : Hid (Grow w w3.drew) := HG3.out.trans (Grow.of_drew _)
      have HB4 : Hid (w3.heap.size ≤ w3.drew.heap.size) := Lib.hid (Nat.le_refl _)
      have HBF : Hid (w.heap.size < w3.heap.size) := Lib.hid HF3.out.lt
      generalize w3.drew = w4 at HX HF4 HRC4 HG4 HB4 ⊢
      generalize w3.heap.size = B at HX HRC4 HB4 HBF ⊢
      clear HF3 HRC3 HG3
      repeat (refine chain_take rfl (by rfl) ?_ (fun W hG => ?_) ?_; rotate_left; (obtain ⟨q1, q2⟩ := HX.out W hG; go_simp; rfl); simp only [Act.put, List.setIfInBounds_toArray, List.set_cons_zero, List.set_cons_succ])
      clear HX
      refine chain_only rfl (by rfl) (fun K hK => ?_)
      go_simp
      have hb5 : Below B w4 (w4.alloc (.cells #[] 5)) := Below.alloc (Below.refl _ _) HB4.out _
      refine hK _ _ hb5 ?_
      clear hK K
      have HO5 := Lib.hid (OB.of_blk (base := B) (l := []) (Blk.new w4 5 #[]) HB4.out (by decide))
      have HF5 := Lib.hid (HF4.out.alloc (.cells #[] 5))
      have HRC5 := Lib.hid (HRC4.out.belowAt hb5 (Nat.le_refl _))
      have HG5 : Hid (Grow w (w4.alloc (.cells #[] 5))) := HG4.out.trans (Grow.of_alloc _ _)
      have HB5 : Hid (B ≤ (w4.alloc (.cells #[] 5)).heap.size) := Lib.hid (Nat.le_trans HB4.out hb5.size)
      clear hb5
      generalize w4.alloc _ = w5 at HO5 HF5 HRC5 HG5 HB5 ⊢
      generalize w4.heap.size = g4 at HO5 ⊢
      clear HF4 HRC4 HG4 HB4
      have hpl := HPl.out
      refine chain_only rfl (by rfl) (fun K hK => ?_)
      refine wp_appendB w5 (.tmp 54) (.tmp 55) 25 rfl B 5 Try.underlying25 (by kernel_rfl) _ _ _ _ rfl HO5.out B Ac P.length cc P rfl HRC5.out (by omega) HB5.out ?_
      intro A6 c6 w6 ho6 hb6
      refine hK _ _ hb6 ?_
      clear hK K
      rw [Nat.zero_add, List.nil_append] at ho6
      rw [Nat.zero_add]
      have HO6 := Lib.hid ho6
      have HF6 := Lib.hid (HF5.out.below hb6 HBF.out)
      have HRC6 := Lib.hid (HRC5.out.belowAt hb6 (Nat.le_refl _))
      have HG6 : Hid (Grow w w6) := HG5.out.trans' (hb6.mono (Nat.le_of_lt HBF.out))
      have HB6 : Hid (B ≤ w6.heap.size) := Lib.hid (Nat.le_trans HB5.out hb6.size)
      clear ho6 hb6 HO5 HF5 HRC5 HG5 HB5
      refine chain_only rfl (by rfl) (fun K hK => ?_)
      refine wp_appendO w6 (.tmp 56) 25 3 9 rfl B 5 Try.underlying25 Try.underlying3 Try.underlying9 (by kernel_rfl) A6 P.length c6 P rfl HO6.out (by omega) HB6.out ?_
      intro A7 c7 w7 ho7 hb7
      refine hK _ _ hb7 ?_
      clear hK K
      have HO7 := Lib.hid ho7
      have HF7 := Lib.hid (HF6.out.below hb7 HBF.out)
      have HRC7 := Lib.hid (HRC6.out.belowAt hb7 (Nat.le_refl _))
      have HG7 : Hid (Grow w w7) := HG6.out.trans' (hb7.mono (Nat.le_of_lt HBF.out))
      have HB7 : Hid (B ≤ w7.heap.size) := Lib.hid (Nat.le_trans HB6.out hb7.size)
      clear ho7 hb7 HO6 HF6 HRC6 HG6 HB6
      refine chain_only rfl (by rfl) (fun K hK => ?_)
      refine wp_appendB w7 (.tmp 57) (.tmp 58) 25 rfl B 5 Try.underlying25 (by kernel_rfl) A7 (P.length + 16) c7 _ rfl HO7.out w.heap.size A2 l.length c2 l rfl (HR2.out.belowAt HG7.out (Nat.le_refl _)) (by omega) HB7.out ?_
      intro A8 c8 w8 ho8 hb8
      refine hK _ _ hb8 ?_
      clear hK K
      have HO8 := Lib.hid ho8.rb
      have HF8 := Lib.hid (HF7.out.below hb8 HBF.out)
      have HRC8 := Lib.hid (HRC7.out.belowAt hb8 (Nat.le_refl _))
      have HG8 : Hid (Grow w w8) := HG7.out.trans' (hb8.mono (Nat.le_of_lt HBF.out))
      have HB8 : Hid (B ≤ w8.heap.size) := Lib.hid (Nat.le_trans HB7.out hb8.size)
      clear ho8 hb8 HO7 HF7 HRC7 HG7 HB7 hpl
      refine chain_only rfl (by rfl) (fun K hK => ?_)
      go_simp
      refine (HA2.out A8 c8 w8 HO8.out).mono ?_
      rintro e w9 ⟨Ax, cx, rfl, hz9, hg9⟩
      refine hK _ _ (hg9.mono HB8.out) ?_
      clear hK K
      have HZ9 := Lib.hid hz9
      have HF9 := Lib.hid (HF8.out.grow hg9)
      have HRC9 : Hid (RB w9 w9.heap.size Ac P.length cc P) := Lib.hid ((HRC8.out.belowAt hg9 HB8.out).more (Nat.le_trans HB8.out hg9.size))
      have HG9 : Hid (Grow w w9) := HG8.out.trans hg9
      clear hz9 hg9 HO8 HF8 HRC8 HG8 HB8
      repeat (refine chain_take rfl (by rfl) ?_ (fun W hG => ?_) ?_; rotate_left; (go_simp; rfl); simp only [Act.put, List.setIfInBounds_toArray, List.set_cons_zero, List.set_cons_succ])
      refine chain_done ?_
      obtain ⟨f0, f1⟩ := HF9.out.c2
      go_wp2_with fail
      clear f0 f1
      refine (HD2.out Ac cc w9 HRC9.out).mono ?_
      rintro e w10 ⟨X, er, rfl, her, hg10⟩
      have HZ10 := Lib.hid (HZ9.out.grow hg10)
      have HG10 : Hid (Grow w w10) := HG9.out.trans hg10
      have HLow2 := Lib.hid (HLow.out w10 (HS.out.grow HG10.out))
      clear hg10 HZ9 HF9 HRC9 HG9 HA2 HD2 HLow HBF HPl HR2 hl d1 d2
      have hzl := HZle.out
      have hq : (er = .nilIface ∧ decide (z < L.length) = true) ∨ (∃ b, er = .iface 56 (.pointer (some ⟨b, 0, none⟩)) ∧ decide (z < L.length) = false) := by
        rcases her with ⟨h1, h2⟩ | ⟨h1, b, h2⟩
        · exact .inl ⟨h2, decide_eq_true (by omega)⟩
        · exact .inr ⟨b, h2, decide_eq_false (by omega)⟩
      clear her HZle
      have i0 : (0 : Int) ≤ (z : Int) := by omega
      have i1 : (z : Int) ≤ (c : Int) := by omega
      rcases hq with ⟨rfl, d5⟩ | ⟨b, rfl, d5⟩
      all_goals
        rcases Nat.eq_zero_or_pos L.length with h0 | h0
        · obtain rfl : z = 0 := by omega
          have HM0 := Lib.hid (HE0.out h0)
          have HmX := Lib.hid hmx
          clear HE0 HLow2 HS h0 hzl hL hcp hmx
          go_wp2_with fail
          refine (HSm.out _ _ _ _ _ HZ10.out (by rw [HM0.out]; exact ZS.none (by have := HmX.out; omega))).mono ?_
          rintro e w11 ⟨rfl, hg11⟩
          have HG11 : Hid (Grow w w11) := HG10.out.trans hg11
          clear hg11 HG10
          go_wp2
          go_ret
          exact ⟨rfl, HG11.out⟩
        · obtain ⟨b, off, rfl, -, -⟩ := HS.out.pos h0
          clear HE0 HS h0 hzl hL hcp hmx
          go_wp2_with fail
          refine (HSm.out _ _ _ _ _ HZ10.out HLow2.out).mono ?_
          rintro e w11 ⟨rfl, hg11⟩
          have HG11 : Hid (Grow w w11) := HG10.out.trans hg11
          clear hg11 HG10
          go_wp2
          go_ret
          exact ⟨rfl, HG11.out⟩
end Go.Proofs.Ytlnadlhajjcaoaa
