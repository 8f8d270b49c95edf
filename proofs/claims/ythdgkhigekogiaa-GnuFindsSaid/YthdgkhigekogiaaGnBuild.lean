/-
  The contract of gnu.Build at a table that may be, and names that may be so: the table's bytes.
-/
import Derived.Test.YthdgkhigekogiaaGnLay
import Derived.Test.YthdgkhigekogiaaFork
import Derived.Test.YthdgkhigekogiaaCut
import Derived.Test.YthdgkhigekogiaaZs
namespace Go.Proofs.Ythdgkhigekogiaa
open Go.RowKit

theorem Below.setRow' {B g : Nat} (W : World) (hg : B ≤ g) (cs : Array Value) : Below B W (W.setRow g cs) := ⟨rfl, rfl, rfl, by simp, fun k hk => setRow_other W g k cs (by omega)⟩

set_option maxHeartbeats 8000000 in
set_option maxRecDepth 100000 in
theorem build_core (f b wd sh z n c : Nat) (wide big : Bool) (L : List Bs) (H K At Bt hd : Nat → Nat) (A : Option Addr) (w : World) (h : SS w w.heap.size A n c L)
    (f1 : 1 ≤ f) (f2 : f ≤ 65536) (b1 : 1 ≤ b) (b2 : b ≤ 1024) (w1 : 1 ≤ wd) (w2 : wd ≤ 1024) (s2 : sh ≤ 31) (hn : n ≤ 1000) (hz : (if wide then 8 else 4) = z)
    (hH : (fun i => gnH (L.getD i [])) = H) (hK : (fun i => H i % b) = K) (hup : ∀ i, i + 1 < n → K i ≤ K (i + 1)) (hAt : ∀ i, i < n → H i / (8 * z) % wd = At i) (hBt : ∀ i, i < n → (2 ^ (H i % (8 * z)) ||| 2 ^ (H i / 2 ^ sh % (8 * z))) = Bt i)
    (hhd : ∀ i, i < 4 → [b, f, wd, sh].getD i 0 = hd i) :
    Calls Try.prog 8 #[.agg #[.int .i64 (f : Int), .int .i64 (b : Int), .int .i64 (wd : Int), .int .i64 (sh : Int)], .slice A n c, .agg #[.bool wide, .bool big]] w fun e w' =>
      ∃ A2 n2 c2, e = .returned (.tuple #[.slice A2 n2 c2, .nilIface]) ∧ RB w' w'.heap.size A2 n2 c2 (layN 4 big hd 4 ++ layN z big (wdTo At Bt n) wd ++ layN 4 big (plTo f K n) b ++ layN 4 big (chK H K n) n) ∧ Grow w w' := by
  have hz8 : z = 4 ∨ z = 8 := by rw [← hz]; cases wide <;> simp
  have HSS := Lib.hid h
  have HMB := Lib.hid (fun W => mayBe_yes f b wd sh W f1 f2 b1 b2 w1 w2 s2)
  have HWS := Lib.hid (fun W => wordSize_any wide big W)
  rw [hz] at HWS
  have HHO := Lib.hid (fun W hS => hashesOf_any A n c L W hS hn)
  rw [hH] at HHO
  have hH32 : ∀ i, i < n → H i < 4294967296 := fun i _ => by rw [← hH]; exact gnH_lt _
  have hKb : ∀ i, i < n → K i < b := fun i _ => by rw [← hK]; exact Nat.mod_lt _ (by omega)
  have hmax : n ≤ maxLen := by unfold maxLen; omega
  have HBO := Lib.hid (fun gh W hr => bucketsOf_any b f wd sh z gh n n H W b1 hH32 hr hn (Nat.le_refl _) hmax)
  rw [hK] at HBO
  have HIS := Lib.hid (fun g W hr => isSorted_yes g n n K W hr hn hup)
  have HFI := Lib.hid (fun gh W hr => filter_any b f wd sh z gh n n H At Bt W hz8 w1 w2 s2 hH32 hAt hBt hr hn (Nat.le_refl _))
  have HPL := Lib.hid (fun gi W hr => places_any b f wd sh z gi n n K W b2 f2 hKb hr hn (Nat.le_refl _) hmax)
  have HCH := Lib.hid (fun gh gi W hr hr' => chain_any gh gi n n n H K W hH32 hr hr' hn (Nat.le_refl _) hmax)
  unfold shC at HBO HFI HPL
  have HZ := Lib.hid hz8
  have HW2 := Lib.hid w2
  have HB2 := Lib.hid b2
  have HN := Lib.hid hn
  have Hhd := Lib.hid hhd
  have e1 : IntKind.u64.wrap (f : Int) = (f : Int) := by rw [IntKind.wrap_u64]; omega
  have e2 : IntKind.u64.wrap (b : Int) = (b : Int) := by rw [IntKind.wrap_u64]; omega
  have e3 : IntKind.u64.wrap (wd : Int) = (wd : Int) := by rw [IntKind.wrap_u64]; omega
  have e4 : IntKind.u64.wrap (sh : Int) = (sh : Int) := by rw [IntKind.wrap_u64]; omega
  have e5 : IntKind.i64.wrap (z : Int) = (z : Int) := by rw [IntKind.wrap_i64]; omega
  clear h f1 f2 b1 b2 w1 w2 s2 hn hz hH hK hup hAt hBt hhd hz8 hH32 hKb hmax
  go_enter Try.func8, Try.ntmps8
  go_wp2_with fail
  generalize hW0 : World.alloc _ _ = W0
  obtain ⟨gt, hgt⟩ : ∃ g, g = w.heap.size := ⟨_, rfl⟩
  obtain ⟨gf, hgf⟩ : ∃ g, g = w.heap.size + 1 := ⟨_, rfl⟩
  have HT0 : Hid (Blk W0 gt 23 #[.int .i64 (f : Int), .int .i64 (b : Int), .int .i64 (wd : Int), .int .i64 (sh : Int)]) := Lib.hid (by rw [hgt]; exact (blk2 hW0).1)
  have HF0 : Hid (Blk W0 gf 26 #[.bool wide, .bool big]) := Lib.hid (by rw [hgf]; exact (blk2 hW0).2.1)
  have HG0 : Hid (Grow w W0) := Lib.hid (blk2 hW0).2.2
  rw [← hgf, ← hgt]
  clear hW0 hgt hgf
  refine (HMB.out _).mono ?_
  rintro e w1 ⟨rfl, hg⟩
  have HT1 := Lib.hid (HT0.out.grow hg)
  have HF1 := Lib.hid (HF0.out.grow hg)
  have HG1 := Lib.hid (HG0.out.trans hg)
  clear hg HT0 HF0 HG0 HMB
  go_wp2_with fail
  obtain ⟨B0, hB0⟩ : ∃ B, B = w1.heap.size := ⟨_, rfl⟩
  have hlt : gt < B0 := by rw [hB0]; exact HT1.out.lt
  have hlf : gf < B0 := by rw [hB0]; exact HF1.out.lt
  have hB1 : B0 ≤ w1.drew.heap.size := by rw [hB0]; exact Nat.le_refl _
  clear hB0
  refine wp_region_tree (leap_below B0) (.chain [(0, true), (1, true), (2, true), (3, true), (4, true), (5, true), (6, true), (7, true), (8, true), (9, true), (10, true), (11, true), (12, true)] (.both 13 (.chain [(14, true), (15, false), (16, false)] .done) 15 (.chain [(13, false), (14, true), (16, false)] .done))) (by kernel_rfl) (by kernel_rfl) (by kernel_rfl) ?_
  refine tr_chain ?_
  have HX : Hid (∀ W, Below B0 w1.drew W → (W.cell? ⟨gt, 0, none⟩ = some (.int .i64 (f : Int)) ∧ W.cell? ⟨gt, 1, none⟩ = some (.int .i64 (b : Int)) ∧ W.cell? ⟨gt, 2, none⟩ = some (.int .i64 (wd : Int)) ∧ W.cell? ⟨gt, 3, none⟩ = some (.int .i64 (sh : Int))) ∧ W.cell? ⟨gf, 0, none⟩ = some (.bool wide) ∧ W.cell? ⟨gf, 1, none⟩ = some (.bool big)) :=
    Lib.hid fun W hW => ⟨((HT1.out.drew).below hW hlt).c4, ((HF1.out.drew).below hW hlf).c2⟩
  have HF2 : Hid (Blk w1.drew gf 26 #[.bool wide, .bool big]) := HF1.out.drew
  have HG2 : Hid (Grow w w1.drew) := HG1.out.trans (Grow.of_drew _)
  generalize w1.drew = w2 at HX HF2 HG2 hB1 ⊢
  clear HT1 HF1 HG1
  repeat (refine chain_take rfl (by rfl) ?_ (fun W hG => ?_) ?_; rotate_left; (obtain ⟨⟨q1, q2, q3, q4⟩, q5, q6⟩ := HX.out W hG; go_simp; rfl); simp only [Act.put, List.setIfInBounds_toArray, List.set_cons_zero, List.set_cons_succ])
  clear HX e1 e2 e3 e4
  refine chain_done (tr_both (step_op rfl (by rfl) ?A) (step_op rfl (by rfl) ?B))
  case' A =>
    intro K hK
    go_simp
    refine (HWS.out _).mono ?_
    rintro e w4 ⟨rfl, hg4⟩
    refine hK _ _ (hg4.mono hB1) ?_
    clear hK K
    have HF4 := Lib.hid (HF2.out.grow hg4)
    have HG4 := Lib.hid (HG2.out.trans hg4)
    have HL4 := Lib.hid (Nat.le_trans hB1 hg4.size)
    clear hg4 HF2 HG2 hB1
    refine tr_chain ?_
    refine chain_take rfl (by rfl) ?_ (fun W hG => ?_) ?_
    rotate_left
    (go_simp; rfl)
    simp only [Act.put, List.setIfInBounds_toArray, List.set_cons_zero, List.set_cons_succ]
    refine chain_only rfl (by rfl) (fun K hK => ?_)
    go_simp
    refine hK _ _ (Below.alloc (Below.refl _ _) HL4.out _) ?_
    clear hK K
    have HD5 := Lib.hid (Blk.new w4 45 #[.int .u64 0, .int .u64 0, .int .u64 0, .int .u64 0, .int .u64 0])
    have HF5 := Lib.hid (HF4.out.alloc (.cells #[.int .u64 0, .int .u64 0, .int .u64 0, .int .u64 0, .int .u64 0] 45))
    have HG5 : Hid (Grow w (w4.alloc (.cells #[.int .u64 0, .int .u64 0, .int .u64 0, .int .u64 0, .int .u64 0] 45))) := HG4.out.trans (Grow.of_alloc _ _)
    have HNe : Hid (gf < w4.heap.size ∧ w.heap.size ≤ w4.heap.size ∧ B0 ≤ w4.heap.size) := Lib.hid ⟨HF4.out.lt, HG4.out.size, HL4.out⟩
    generalize w4.alloc _ = w5 at HD5 HF5 HG5 ⊢
    generalize w4.heap.size = gx at HD5 HNe ⊢
    clear HF4 HG4 HL4
  case' B =>
    intro K hK
    go_simp
    refine hK _ _ (Below.alloc (Below.refl _ _) hB1 _) ?_
    clear hK K
    have HD4 := Lib.hid (Blk.new w2 45 #[.int .u64 0, .int .u64 0, .int .u64 0, .int .u64 0, .int .u64 0])
    have HF4 := Lib.hid (HF2.out.alloc (.cells #[.int .u64 0, .int .u64 0, .int .u64 0, .int .u64 0, .int .u64 0] 45))
    have HG4 : Hid (Grow w (w2.alloc (.cells #[.int .u64 0, .int .u64 0, .int .u64 0, .int .u64 0, .int .u64 0] 45))) := HG2.out.trans (Grow.of_alloc _ _)
    have HNe : Hid (gf < w2.heap.size ∧ w.heap.size ≤ w2.heap.size ∧ B0 ≤ w2.heap.size) := Lib.hid ⟨HF2.out.lt, HG2.out.size, hB1⟩
    have HL4 : Hid (B0 ≤ (w2.alloc (.cells #[.int .u64 0, .int .u64 0, .int .u64 0, .int .u64 0, .int .u64 0] 45)).heap.size) := Lib.hid (by simp; omega)
    generalize w2.alloc _ = w4 at HD4 HF4 HG4 HL4 ⊢
    generalize w2.heap.size = gx at HD4 HNe ⊢
    clear HF2 HG2 hB1
    refine tr_chain ?_
    refine chain_only rfl (by rfl) (fun K hK => ?_)
    go_simp
    refine (HWS.out _).mono ?_
    rintro e w5 ⟨rfl, hg5⟩
    refine hK _ _ (hg5.mono HL4.out) ?_
    clear hK K
    have HD5 := Lib.hid (HD4.out.grow hg5)
    have HF5 := Lib.hid (HF4.out.grow hg5)
    have HG5 := Lib.hid (HG4.out.trans hg5)
    clear hg5 HD4 HF4 HG4 HL4
    refine chain_take rfl (by rfl) ?_ (fun W hG => ?_) ?_
    rotate_left
    (go_simp; rfl)
    simp only [Act.put, List.setIfInBounds_toArray, List.set_cons_zero, List.set_cons_succ]
  all_goals
    refine chain_only rfl (by rfl) (fun K hK => ?_)
    refine wp_store_row 45 (.tmp 8) (.tmp 30) rfl gx #[.int .u64 (b : Int), .int .u64 (f : Int), .int .u64 (wd : Int), .int .u64 (sh : Int), .int .u64 (z : Int)] rfl rfl _ _ HD5.out (by kernel_rfl) rfl (by simp [Value.oneCell']) ?_
    refine hK _ _ (Below.setRow' _ HNe.out.2.2 _) ?_
    clear hK K
    have HX7 := Lib.hid (HD5.out.set #[.int .u64 (b : Int), .int .u64 (f : Int), .int .u64 (wd : Int), .int .u64 (sh : Int), .int .u64 (z : Int)])
    have HF7 := Lib.hid (HF5.out.other (show gf ≠ gx by have := HNe.out.1; omega) #[.int .u64 (b : Int), .int .u64 (f : Int), .int .u64 (wd : Int), .int .u64 (sh : Int), .int .u64 (z : Int)])
    have HG7 : Hid (Grow w (w5.setRow gx #[.int .u64 (b : Int), .int .u64 (f : Int), .int .u64 (wd : Int), .int .u64 (sh : Int), .int .u64 (z : Int)])) := Grow.set HG5.out HNe.out.2.1 _
    generalize w5.setRow gx _ = w7 at HX7 HF7 HG7 ⊢
    clear HD5 HF5 HG5 HNe HWS
    refine chain_done (tr_done ?_)
    go_wp2_with fail
    refine (HHO.out _ ((HSS.out.belowAt HG7.out (Nat.le_refl _)).more HG7.out.size)).mono ?_
    rintro e w8 ⟨gh, rfl, -, hrow, hg⟩
    have HH8 := Lib.hid hrow
    have HX8 := Lib.hid (HX7.out.grow hg)
    have HF8 := Lib.hid (HF7.out.grow hg)
    have HG8 := Lib.hid (HG7.out.trans hg)
    obtain ⟨c0, c1, c2, c3, c4⟩ := HX8.out.c5
    clear hrow hg HX7 HF7 HG7 HHO
    go_wp2_with fail
    refine (HBO.out gh _ HH8.out).mono ?_
    rintro e w9 ⟨gi, rfl, -, hrow, hg⟩
    have HI9 := Lib.hid hrow
    have HH9 := Lib.hid (rows_grow HH8.out hg)
    have HX9 := Lib.hid (HX8.out.grow hg)
    have HF9 := Lib.hid (HF8.out.grow hg)
    have HG9 := Lib.hid (HG8.out.trans hg)
    clear hrow hg HX8 HF8 HG8 HBO HH8 c0 c1 c2 c3 c4
    go_wp2_with fail
    refine (HIS.out gi _ HI9.out).mono ?_
    rintro e w10 ⟨rfl, hg⟩
    have HI10 := Lib.hid (rows_grow HI9.out hg)
    have HH10 := Lib.hid (rows_grow HH9.out hg)
    have HX10 := Lib.hid (HX9.out.grow hg)
    have HF10 := Lib.hid (HF9.out.grow hg)
    have HG10 := Lib.hid (HG9.out.trans hg)
    obtain ⟨c0, c1, c2, c3, c4⟩ := HX10.out.c5
    have HF11 := Lib.hid (HF10.out.alloc (.cells #[.int .u64 (b : Int), .int .u64 (f : Int), .int .u64 (wd : Int), .int .u64 (sh : Int)] 43))
    obtain ⟨k0, k1⟩ := HF11.out.c2
    clear hg HX9 HF9 HG9 HIS HH9 HI9
    go_wp2_with fail
    obtain ⟨Bs0, hBs0⟩ : ∃ B, B = w10.heap.size := ⟨_, rfl⟩
    have hs : (w10.alloc (.cells #[.int .u64 (b : Int), .int .u64 (f : Int), .int .u64 (wd : Int), .int .u64 (sh : Int)] 43)).rowIs Bs0 43 4 (ivl .u64 hd) := by
      rw [hBs0]
      refine World.rowIs_alloc w10 _ 43 _ fun i hi => ?_
      have h4 : i < 4 := hi
      have := Hhd.out i h4
      unfold ivl
      match i, h4 with
      | 0, _ => rw [← this]; rfl
      | 1, _ => rw [← this]; rfl
      | 2, _ => rw [← this]; rfl
      | 3, _ => rw [← this]; rfl
    have HS11 := Lib.hid hs
    have HBd : Hid (gx < Bs0 ∧ gf < Bs0 ∧ gh < Bs0 ∧ gi < Bs0) := Lib.hid (by rw [hBs0]; exact ⟨HX10.out.lt, HF10.out.lt, HH10.out.lt, HI10.out.lt⟩)
    have HX11 := Lib.hid (HX10.out.alloc (.cells #[.int .u64 (b : Int), .int .u64 (f : Int), .int .u64 (wd : Int), .int .u64 (sh : Int)] 43))
    have HH11 := Lib.hid (rows_grow HH10.out (Grow.of_alloc w10 (.cells #[.int .u64 (b : Int), .int .u64 (f : Int), .int .u64 (wd : Int), .int .u64 (sh : Int)] 43)))
    have HI11 := Lib.hid (rows_grow HI10.out (Grow.of_alloc w10 (.cells #[.int .u64 (b : Int), .int .u64 (f : Int), .int .u64 (wd : Int), .int .u64 (sh : Int)] 43)))
    have HG11 : Hid (Below w.heap.size w (w10.alloc (.cells #[.int .u64 (b : Int), .int .u64 (f : Int), .int .u64 (wd : Int), .int .u64 (sh : Int)] 43))) := Lib.hid (HG10.out.trans (Grow.of_alloc _ _))
    have HBs : Hid (w.heap.size ≤ Bs0 ∧ Bs0 ≤ (w10.alloc (.cells #[.int .u64 (b : Int), .int .u64 (f : Int), .int .u64 (wd : Int), .int .u64 (sh : Int)] 43)).heap.size) := Lib.hid (by rw [hBs0]; exact ⟨HG10.out.size, by simp⟩)
    have HLA : Hid (∀ (zz : Nat) (A : Option Addr) (n c : Nat) (l : List UInt8) (g m cg : Nat) (fn : Nat → Nat) (W : World), OB W Bs0 5 A n c l → Bs0 ≤ W.heap.size → zz = 4 ∨ zz = 8 → W.rowIs g 43 m (ivl .u64 fn) → m ≤ 2000 → m ≤ cg → cg ≤ maxLen → l.length ≤ 1000000 →
        Calls Try.prog 19 #[.slice A n c, .slice (some ⟨g, 0, none⟩) m cg, .int .i64 (zz : Int), .agg #[.bool wide, .bool big]] W fun e w' => ∃ A2 n2 c2, e = .returned (.slice A2 n2 c2) ∧ OB w' Bs0 5 A2 n2 c2 (l ++ layN zz big fn m) ∧ Below Bs0 W w') :=
      Lib.hid fun zz A n c l g m cg fn W ho hb hz hr hm hmc hc hl => lay_any A n c l Bs0 g m cg zz fn wide big W ho hb (by rcases hz with rfl | rfl <;> decide) hr hm hmc hc hl
    rw [← hBs0]
    generalize w10.alloc _ = w11 at HS11 HX11 HH11 HI11 HG11 HBs HF11 ⊢
    clear hs hBs0 k0 k1 c0 c1 c2 c3 c4 HX10 HF10 HG10 HH10 HI10
    refine ((HLA.out 4 none 0 0 [] Bs0 4 4 hd w11 OB.nil HBs.out.2 (.inl rfl) HS11.out (by omega) (by omega) (by unfold maxLen; omega) (Nat.zero_le _)) : Calls Try.prog 19 #[.slice none 0 0, .slice (some ⟨Bs0, 0, none⟩) 4 4, .int .i64 4, .agg #[.bool wide, .bool big]] w11 _).mono ?_
    rintro e w12 ⟨A1, n1, c1, rfl, ho, hb⟩
    rw [List.nil_append] at ho
    have HO12 := Lib.hid ho
    have HX12 := Lib.hid (HX11.out.below hb HBd.out.1)
    have HF12 := Lib.hid (HF11.out.below hb HBd.out.2.1)
    have HH12 := Lib.hid (rows_below HH11.out hb HBd.out.2.2.1)
    have HI12 := Lib.hid (rows_below HI11.out hb HBd.out.2.2.2)
    have HG12 := Lib.hid (HG11.out.trans (hb.mono HBs.out.1))
    have HB12 := Lib.hid (Nat.le_trans HBs.out.2 hb.size)
    clear ho hb HX11 HF11 HH11 HI11 HG11 HS11
    go_wp2_with fail
    have HXW : Hid (∀ W, Below Bs0 w12.drew W → (W.cell? ⟨gx, 0, none⟩ = some (.int .u64 (b : Int)) ∧ W.cell? ⟨gx, 1, none⟩ = some (.int .u64 (f : Int)) ∧ W.cell? ⟨gx, 2, none⟩ = some (.int .u64 (wd : Int)) ∧ W.cell? ⟨gx, 3, none⟩ = some (.int .u64 (sh : Int)) ∧ W.cell? ⟨gx, 4, none⟩ = some (.int .u64 (z : Int))) ∧ W.cell? ⟨gf, 0, none⟩ = some (.bool wide) ∧ W.cell? ⟨gf, 1, none⟩ = some (.bool big)) :=
      Lib.hid fun W hW => ⟨((HX12.out.drew).below hW HBd.out.1).c5, ((HF12.out.drew).below hW HBd.out.2.1).c2⟩
    refine wp_region_leap (leap_below Bs0) [(0, true), (1, true), (2, true), (4, true), (5, true), (6, true), (7, true), (3, false), (8, false), (9, true)] (by kernel_rfl) (by kernel_rfl) (by kernel_rfl) ?_
    repeat (refine chain_take rfl (by rfl) ?_ (fun W hG => ?_) ?_; rotate_left; (obtain ⟨⟨q1, q2, q3, q4, q5⟩, q6, q7⟩ := HXW.out W hG; go_simp; rfl); simp only [Act.put, List.setIfInBounds_toArray, List.set_cons_zero, List.set_cons_succ])
    have HO13 : Hid (OB w12.drew Bs0 _ _ _ _ _) := HO12
    have HX13 : Hid (Blk w12.drew gx _ _) := HX12
    have HF13 : Hid (Blk w12.drew gf _ _) := HF12
    have HH13 : Hid (World.rowIs w12.drew gh _ _ _) := HH12
    have HI13 : Hid (World.rowIs w12.drew gi _ _ _) := HI12
    have HG13 : Hid (Below w.heap.size w w12.drew) := Lib.hid (below_drewN HG12.out 1)
    have HB13 : Hid (Bs0 ≤ w12.drew.heap.size) := HB12
    generalize w12.drew = w13 at HO13 HX13 HF13 HH13 HI13 HG13 HB13 ⊢
    clear HXW HO12 HX12 HF12 HH12 HI12 HG12 HB12
    refine chain_only rfl (by rfl) (fun K hK => ?_)
    go_simp
    refine (HFI.out gh _ HH13.out).mono ?_
    rintro e w14 ⟨gr, rfl, -, hrow, hg⟩
    refine hK _ _ (hg.mono HB13.out) ?_
    clear hK K
    have HR14 := Lib.hid hrow
    have HO14 := Lib.hid (HO13.out.keep hg)
    have HX14 := Lib.hid (HX13.out.grow hg)
    have HF14 := Lib.hid (HF13.out.grow hg)
    have HH14 := Lib.hid (rows_grow HH13.out hg)
    have HI14 := Lib.hid (rows_grow HI13.out hg)
    have HG14 := Lib.hid (HG13.out.trans (hg.mono (Nat.le_trans HBs.out.1 HB13.out)))
    have HB14 := Lib.hid (Nat.le_trans HB13.out hg.size)
    clear hrow hg HO13 HX13 HF13 HH13 HI13 HG13 HB13
    refine chain_only rfl (by rfl) (fun K hK => ?_)
    go_simp
    refine (HLA.out z _ _ _ _ gr wd wd _ w14 HO14.out HB14.out HZ.out HR14.out (by have h2 := HW2.out; omega) (Nat.le_refl _) (by have h2 := HW2.out; unfold maxLen; omega) (by have h2 := HW2.out; have h3 : wd * z ≤ 1024 * 8 := Nat.mul_le_mul h2 (by have := HZ.out; omega); have h4 := HB2.out; simp only [length_layN]; omega)).mono ?_
    rintro e w15 ⟨A2, n2, c2, rfl, ho, hb⟩
    refine hK _ _ hb ?_
    clear hK K
    have HO15 := Lib.hid ho
    have HX15 := Lib.hid (HX14.out.below hb HBd.out.1)
    have HF15 := Lib.hid (HF14.out.below hb HBd.out.2.1)
    have HH15 := Lib.hid (rows_below HH14.out hb HBd.out.2.2.1)
    have HI15 := Lib.hid (rows_below HI14.out hb HBd.out.2.2.2)
    have HG15 := Lib.hid (HG14.out.trans (hb.mono HBs.out.1))
    have HB15 := Lib.hid (Nat.le_trans HB14.out hb.size)
    clear ho hb HR14 HO14 HX14 HF14 HH14 HI14 HG14 HB14
    refine chain_take rfl (by rfl) ?_ (fun W hG => ?_) ?_
    rotate_left
    (go_simp; rfl)
    simp only [Act.put, List.setIfInBounds_toArray, List.set_cons_zero, List.set_cons_succ]
    refine chain_done ?_
    go_wp2_with fail
    have HXW : Hid (∀ W, Below Bs0 w15.drew W → (W.cell? ⟨gx, 0, none⟩ = some (.int .u64 (b : Int)) ∧ W.cell? ⟨gx, 1, none⟩ = some (.int .u64 (f : Int)) ∧ W.cell? ⟨gx, 2, none⟩ = some (.int .u64 (wd : Int)) ∧ W.cell? ⟨gx, 3, none⟩ = some (.int .u64 (sh : Int)) ∧ W.cell? ⟨gx, 4, none⟩ = some (.int .u64 (z : Int))) ∧ W.cell? ⟨gf, 0, none⟩ = some (.bool wide) ∧ W.cell? ⟨gf, 1, none⟩ = some (.bool big)) :=
      Lib.hid fun W hW => ⟨((HX15.out.drew).below hW HBd.out.1).c5, ((HF15.out.drew).below hW HBd.out.2.1).c2⟩
    refine wp_region_leap (leap_below Bs0) [(0, true), (1, true), (2, true), (4, true), (3, false), (5, false), (6, true)] (by kernel_rfl) (by kernel_rfl) (by kernel_rfl) ?_
    repeat (refine chain_take rfl (by rfl) ?_ (fun W hG => ?_) ?_; rotate_left; (obtain ⟨⟨q1, q2, q3, q4, q5⟩, q6, q7⟩ := HXW.out W hG; go_simp; rfl); simp only [Act.put, List.setIfInBounds_toArray, List.set_cons_zero, List.set_cons_succ])
    have HO16 : Hid (OB w15.drew Bs0 _ _ _ _ _) := HO15
    have HX16 : Hid (Blk w15.drew gx _ _) := HX15
    have HF16 : Hid (Blk w15.drew gf _ _) := HF15
    have HH16 : Hid (World.rowIs w15.drew gh _ _ _) := HH15
    have HI16 : Hid (World.rowIs w15.drew gi _ _ _) := HI15
    have HG16 : Hid (Below w.heap.size w w15.drew) := Lib.hid (below_drewN HG15.out 1)
    have HB16 : Hid (Bs0 ≤ w15.drew.heap.size) := HB15
    generalize w15.drew = w16 at HO16 HX16 HF16 HH16 HI16 HG16 HB16 ⊢
    clear HXW HO15 HX15 HF15 HH15 HI15 HG15 HB15
    refine chain_only rfl (by rfl) (fun K hK => ?_)
    go_simp
    refine (HPL.out gi _ HI16.out).mono ?_
    rintro e w17 ⟨gr, rfl, -, hrow, hg⟩
    refine hK _ _ (hg.mono HB16.out) ?_
    clear hK K
    have HR17 := Lib.hid hrow
    have HO17 := Lib.hid (HO16.out.keep hg)
    have HX17 := Lib.hid (HX16.out.grow hg)
    have HF17 := Lib.hid (HF16.out.grow hg)
    have HH17 := Lib.hid (rows_grow HH16.out hg)
    have HI17 := Lib.hid (rows_grow HI16.out hg)
    have HG17 := Lib.hid (HG16.out.trans (hg.mono (Nat.le_trans HBs.out.1 HB16.out)))
    have HB17 := Lib.hid (Nat.le_trans HB16.out hg.size)
    clear hrow hg HO16 HX16 HF16 HH16 HI16 HG16 HB16
    refine chain_only rfl (by rfl) (fun K hK => ?_)
    go_simp
    refine ((HLA.out 4 _ _ _ _ gr b b _ w17 HO17.out HB17.out (.inl rfl) HR17.out (by have h2 := HB2.out; omega) (Nat.le_refl _) (by have h2 := HB2.out; unfold maxLen; omega) (by have h2 := HW2.out; have h3 : wd * z ≤ 1024 * 8 := Nat.mul_le_mul h2 (by have := HZ.out; omega); have h4 := HB2.out; simp only [List.length_append, length_layN]; omega)) : Calls Try.prog 19 #[_, _, .int .i64 4, _] _ _).mono ?_
    rintro e w18 ⟨A2, n2, c2, rfl, ho, hb⟩
    refine hK _ _ hb ?_
    clear hK K
    have HO18 := Lib.hid ho
    have HX18 := Lib.hid (HX17.out.below hb HBd.out.1)
    have HF18 := Lib.hid (HF17.out.below hb HBd.out.2.1)
    have HH18 := Lib.hid (rows_below HH17.out hb HBd.out.2.2.1)
    have HI18 := Lib.hid (rows_below HI17.out hb HBd.out.2.2.2)
    have HG18 := Lib.hid (HG17.out.trans (hb.mono HBs.out.1))
    have HB18 := Lib.hid (Nat.le_trans HB17.out hb.size)
    clear ho hb HR17 HO17 HX17 HF17 HH17 HI17 HG17 HB17
    refine chain_take rfl (by rfl) ?_ (fun W hG => ?_) ?_
    rotate_left
    (go_simp; rfl)
    simp only [Act.put, List.setIfInBounds_toArray, List.set_cons_zero, List.set_cons_succ]
    refine chain_done ?_
    go_wp2_with fail
    have HXW : Hid (∀ W, Below Bs0 w18.drew W → (W.cell? ⟨gx, 0, none⟩ = some (.int .u64 (b : Int)) ∧ W.cell? ⟨gx, 1, none⟩ = some (.int .u64 (f : Int)) ∧ W.cell? ⟨gx, 2, none⟩ = some (.int .u64 (wd : Int)) ∧ W.cell? ⟨gx, 3, none⟩ = some (.int .u64 (sh : Int)) ∧ W.cell? ⟨gx, 4, none⟩ = some (.int .u64 (z : Int))) ∧ W.cell? ⟨gf, 0, none⟩ = some (.bool wide) ∧ W.cell? ⟨gf, 1, none⟩ = some (.bool big)) :=
      Lib.hid fun W hW => ⟨((HX18.out.drew).below hW HBd.out.1).c5, ((HF18.out.drew).below hW HBd.out.2.1).c2⟩
    refine wp_region_leap (leap_below Bs0) [(0, true), (1, true), (2, true), (4, true), (3, false), (5, false), (6, true), (7, true)] (by kernel_rfl) (by kernel_rfl) (by kernel_rfl) ?_
    repeat (refine chain_take rfl (by rfl) ?_ (fun W hG => ?_) ?_; rotate_left; (obtain ⟨⟨q1, q2, q3, q4, q5⟩, q6, q7⟩ := HXW.out W hG; go_simp; rfl); simp only [Act.put, List.setIfInBounds_toArray, List.set_cons_zero, List.set_cons_succ])
    have HO19 : Hid (OB w18.drew Bs0 _ _ _ _ _) := HO18
    have HX19 : Hid (Blk w18.drew gx _ _) := HX18
    have HF19 : Hid (Blk w18.drew gf _ _) := HF18
    have HH19 : Hid (World.rowIs w18.drew gh _ _ _) := HH18
    have HI19 : Hid (World.rowIs w18.drew gi _ _ _) := HI18
    have HG19 : Hid (Below w.heap.size w w18.drew) := Lib.hid (below_drewN HG18.out 1)
    have HB19 : Hid (Bs0 ≤ w18.drew.heap.size) := HB18
    generalize w18.drew = w19 at HO19 HX19 HF19 HH19 HI19 HG19 HB19 ⊢
    clear HXW HO18 HX18 HF18 HH18 HI18 HG18 HB18
    refine chain_only rfl (by rfl) (fun K hK => ?_)
    go_simp
    refine (HCH.out gh gi _ HH19.out HI19.out).mono ?_
    rintro e w20 ⟨gr, rfl, -, hrow, hg⟩
    refine hK _ _ (hg.mono HB19.out) ?_
    clear hK K
    have HR20 := Lib.hid hrow
    have HO20 := Lib.hid (HO19.out.keep hg)
    have HX20 := Lib.hid (HX19.out.grow hg)
    have HF20 := Lib.hid (HF19.out.grow hg)
    have HH20 := Lib.hid (rows_grow HH19.out hg)
    have HI20 := Lib.hid (rows_grow HI19.out hg)
    have HG20 := Lib.hid (HG19.out.trans (hg.mono (Nat.le_trans HBs.out.1 HB19.out)))
    have HB20 := Lib.hid (Nat.le_trans HB19.out hg.size)
    clear hrow hg HO19 HX19 HF19 HH19 HI19 HG19 HB19
    refine chain_only rfl (by rfl) (fun K hK => ?_)
    go_simp
    refine ((HLA.out 4 _ _ _ _ gr n n _ w20 HO20.out HB20.out (.inl rfl) HR20.out (by have h2 := HN.out; omega) (Nat.le_refl _) (by have h2 := HN.out; unfold maxLen; omega) (by have h2 := HW2.out; have h3 : wd * z ≤ 1024 * 8 := Nat.mul_le_mul h2 (by have := HZ.out; omega); have h4 := HB2.out; simp only [List.length_append, length_layN]; omega)) : Calls Try.prog 19 #[_, _, .int .i64 4, _] _ _).mono ?_
    rintro e w21 ⟨A2, n2, c2, rfl, ho, hb⟩
    refine hK _ _ hb ?_
    clear hK K
    have HO21 := Lib.hid ho
    have HX21 := Lib.hid (HX20.out.below hb HBd.out.1)
    have HF21 := Lib.hid (HF20.out.below hb HBd.out.2.1)
    have HH21 := Lib.hid (rows_below HH20.out hb HBd.out.2.2.1)
    have HI21 := Lib.hid (rows_below HI20.out hb HBd.out.2.2.2)
    have HG21 := Lib.hid (HG20.out.trans (hb.mono HBs.out.1))
    have HB21 := Lib.hid (Nat.le_trans HB20.out hb.size)
    clear ho hb HR20 HO20 HX20 HF20 HH20 HI20 HG20 HB20
    refine chain_take rfl (by rfl) ?_ (fun W hG => ?_) ?_
    rotate_left
    (go_simp; rfl)
    simp only [Act.put, List.setIfInBounds_toArray, List.set_cons_zero, List.set_cons_succ]
    refine chain_take rfl (by rfl) ?_ (fun W hG => ?_) ?_
    rotate_left
    (go_simp; rfl)
    simp only [Act.put, List.setIfInBounds_toArray, List.set_cons_zero, List.set_cons_succ]
    refine chain_done ?_
    go_wp2
    go_ret2
    exact ⟨_, _, _, rfl, HO21.out.rb, HG21.out⟩

/-- Build at a table that may be, and names that may be so. -/
theorem build_any (t : Gn) (ht : t.Ok) (A : Option Addr) (n c : Nat) (w : World) (h : SS w w.heap.size A n c t.L) :
    Calls Try.prog 8 #[.agg #[.int .i64 (t.first : Int), .int .i64 (t.buckets : Int), .int .i64 (t.words : Int), .int .i64 (t.shift : Int)], .slice A n c, .agg #[.bool t.wide, .bool t.big]] w fun e w' =>
      ∃ A2 n2 c2, e = .returned (.tuple #[.slice A2 n2 c2, .nilIface]) ∧ RB w' w'.heap.size A2 n2 c2 t.B ∧ Grow w w' := by
  have hn : n = t.n := h.len
  have := build_core t.first t.buckets t.words t.shift t.z n c t.wide t.big t.L t.h t.k (fun i => t.at_ (t.h i)) (fun i => t.bt (t.h i)) t.hd A w h ht.f1 ht.f2 ht.b1 ht.b2 ht.w1 ht.w2 ht.s2 (by rw [hn]; exact ht.n2) rfl rfl rfl (fun i hi => ht.up i (i + 1) (by omega) (by omega)) (fun _ _ => rfl) (fun _ _ => rfl) (fun _ _ => rfl)
  rw [hn] at this ⊢
  exact this
end Go.Proofs.Ythdgkhigekogiaa
