/-
  Several texts in one: The contract of the document's own Rels; The contracts of the document's own Entries and Relocations.
-/
import Derived.Test.YtfpihkbpelbcbaaRtG12
import Derived.Test.YtfpihkbpelbcbaaRtG4
import Derived.Test.YtfpihkbpelbcbaaRtG2
import Derived.Test.YtfpihkbpelbcbaaRtG20
import Derived.Lib.SmallJoins
import Derived.Test.YtfpihkbpelbcbaaRtG18
import Derived.Test.YtfpihkbpelbcbaaRtG19
namespace Go.Proofs.Ytfpihkbpelbcbaa
open Go.Lib (hid)
open Go.RowKit
def RAllEO (l : List UInt8) (wide adds big : Bool) (w : World) (e : Ending) (w' : World) : Prop :=
 (l.length % reSize wide adds = 0 ∧ ∃ A c, e = .returned (.tuple #[.slice A (l.length / reSize wide adds) c, .int .i64 (-1)]) ∧ ZO w' w.heap.size 68 4 A (l.length / reSize wide adds) c ((rels l wide adds big).map Re.C) ∧ Grow w w') ∨
 (l.length % reSize wide adds ≠ 0 ∧ e = .returned (.tuple #[.slice none 0 0, .int .i64 ((l.length - l.length % reSize wide adds : Nat) : Int)]) ∧ Grow w w')
theorem reRow_fine (wide adds : Bool) (k : Nat) (hk : k < (reRow wide adds).length) : wid ((reRow wide adds)[k] : Nat) = true := by
 have hw := reW_wid wide
 cases adds
 ·match k, hk with
  | 0, _ => exact hw
  | 1, _ => exact hw
 ·match k, hk with
  | 0, _ => exact hw
  | 1, _ => exact hw
  | 2, _ => exact hw
theorem reRow_8 (wide adds : Bool) (k : Nat) (hk : k < (reRow wide adds).length) : (reRow wide adds)[k] ≤ 8 := by
 have := wid_cases (reRow_fine wide adds k hk)
 omega
theorem ON.atR {w : World} {base : Nat} {e : TypeId} {k : IntKind} {A : Option Addr} {n c : Nat} {adds : Bool} {x0 x1 x2 : Nat} (h : ON w base e k A n c (if adds then [x0, x1, x2] else [x0, x1])) (hn : n = reN adds) :
  ∃ g cs, A = some ⟨g, 0, none⟩ ∧ base ≤ g ∧ Blk w g e cs ∧ n ≤ c ∧ ∀ W, Blk W g e cs → W.cell? ⟨g, 0, none⟩ = some (.int k x0) ∧ W.cell? ⟨g, 1, none⟩ = some (.int k x1) ∧ (adds = true → W.cell? ⟨g, 2, none⟩ = some (.int k x2)) := by
 have h2 : 2 ≤ n := by rw [hn]; cases adds <;> decide
 obtain ⟨g, cs, hA, hb, hB, hc, key⟩ := h.cells (by omega)
 refine ⟨g, cs, hA, hb, hB, hc, fun W hW => ⟨key W hW 0 _ (by omega) (by cases adds <;> rfl), key W hW 1 _ (by omega) (by cases adds <;> rfl), fun ha => ?_⟩⟩
 subst ha
 exact key W hW 2 _ (by rw [hn]; decide) rfl
theorem list21 {l : List Value} (h : l.length = 21) : ∃ x0 x1 x2 x3 x4 x5 x6 x7 x8 x9 x10 x11 x12 x13 x14 x15 x16 x17 x18 x19 x20, l = [x0, x1, x2, x3, x4, x5, x6, x7, x8, x9, x10, x11, x12, x13, x14, x15, x16, x17, x18, x19, x20] := by
 match l, h with
 | [x0, x1, x2, x3, x4, x5, x6, x7, x8, x9, x10, x11, x12, x13, x14, x15, x16, x17, x18, x19, x20], _ => exact ⟨_, _, _, _, _, _, _, _, _, _, _, _, _, _, _, _, _, _, _, _, _, rfl⟩
theorem list26 {l : List Value} (h : l.length = 26) : ∃ x0 x1 x2 x3 x4 x5 x6 x7 x8 x9 x10 x11 x12 x13 x14 x15 x16 x17 x18 x19 x20 x21 x22 x23 x24 x25, l = [x0, x1, x2, x3, x4, x5, x6, x7, x8, x9, x10, x11, x12, x13, x14, x15, x16, x17, x18, x19, x20, x21, x22, x23, x24, x25] := by
 match l, h with
 | [x0, x1, x2, x3, x4, x5, x6, x7, x8, x9, x10, x11, x12, x13, x14, x15, x16, x17, x18, x19, x20, x21, x22, x23, x24, x25], _ => exact ⟨_, _, _, _, _, _, _, _, _, _, _, _, _, _, _, _, _, _, _, _, _, _, _, _, _, _, rfl⟩
theorem Blk.put1R {w : World} {g : Nat} {t : TypeId} {a b c d : Value} (h : Blk w g t #[a, b, c, d]) (v : Value) : Blk (w.setCell ⟨g, 1, none⟩ v) g t #[a, v, c, d] := by
 have := Joins.block_setCell (i := 1) h v
 simp at this
 exact this
theorem Blk.put2 {w : World} {g : Nat} {t : TypeId} {a b c d : Value} (h : Blk w g t #[a, b, c, d]) (v : Value) : Blk (w.setCell ⟨g, 2, none⟩ v) g t #[a, b, v, d] := by
 have := Joins.block_setCell (i := 2) h v
 simp at this
 exact this
theorem Blk.put3 {w : World} {g : Nat} {t : TypeId} {a b c d : Value} (h : Blk w g t #[a, b, c, d]) (v : Value) : Blk (w.setCell ⟨g, 3, none⟩ v) g t #[a, b, c, v] := by
 have := Joins.block_setCell (i := 3) h v
 simp at this
 exact this
set_option maxRecDepth 100000 in
set_option maxHeartbeats 2000000 in
theorem rAllEO_any (A : Option Addr) (n c : Nat) (l : List UInt8) (wide adds big : Bool) (w : World) (h : RB w w.heap.size A n c l) (h10 : l.length ≤ 100000) :
  Calls Try.prog 51 #[.slice A n c, .agg #[.bool wide, .bool big], .bool adds] w (RAllEO l wide adds big w) := by
 have HR := hid h
 obtain rfl := h.len
 have hcp := h.cap
 have hmx := h.max
 unfold maxLen at hmx
 clear h
 have HRo := hid (fun w => relRow_any wide big adds w)
 have hs24 := reSize_le wide adds
 have hs0 := reSize_pos wide adds
 have HTo : Hid (∀ k, relsTo l wide adds big (k + 1) = relsTo l wide adds big k ++ [reOf l (k * reSize wide adds) wide adds big]) := hid (relsTo_succ l wide adds big)
 have HSy : Hid (rels l wide adds big = relsTo l wide adds big (l.length / reSize wide adds)) := hid rfl
 have HRl : Hid ((reRow wide adds).length = reN adds) := hid (len_reRow wide adds)
 have HFi := hid (reRow_fine wide adds)
 have HF8 := hid (reRow_8 wide adds)
 have HSu : Hid (sumN (reRow wide adds) = reSize wide adds) := hid (sum_reRow wide adds)
 have HX6 := hid (fun q => reOf_nums l q wide adds big)
 have hn2 : 2 ≤ reN adds := by cases adds <;> decide
 have hn3 : reN adds ≤ 3 := by cases adds <;> decide
 have HN3 : Hid (adds = true → reN adds = 3) := hid (by rintro rfl; rfl)
 have HNE : Hid (reN adds = reN adds) := hid rfl
 unfold RAllEO
 generalize rels l wide adds big = S at HSy ⊢
 generalize reRow wide adds = row at HRo HRl HFi HF8 HSu HX6
 generalize reSize wide adds = sz at hs24 hs0 HTo HSy HSu ⊢
 generalize hnn : reN adds = nn at HRo HRl hn2 hn3 HN3 HNE
 have HNN := hid hnn
 clear hnn HNE
 obtain ⟨r, hr⟩ : ∃ r, r = l.length % sz := ⟨_, rfl⟩
 obtain ⟨m, hm⟩ : ∃ m, m = l.length / sz := ⟨_, rfl⟩
 have hdm : sz * m + r = l.length := by rw [hr, hm]; exact Nat.div_add_mod _ _
 have hrs : r < sz := by rw [hr]; exact Nat.mod_lt _ hs0
 rw [← hr]
 rw [← hm] at HSy ⊢
 have HDM := hid hdm
 have HRs := hid hrs
 have hr1 : r ≤ l.length := by omega
 have hm1 : m ≤ l.length := by
  have : 1 * m ≤ sz * m := Nat.mul_le_mul_right m hs0
  omega
 clear hr hm hdm hrs
 go_enter Try.func51, Try.ntmps51
 go_wp2_with fail
 generalize hW : World.alloc _ _ = W0
 obtain ⟨bf, hg0⟩ := blk1 hW
 clear hW
 refine (HRo.out W0).mono ?_
 rintro e w1 ⟨gr, rfl, hbr, -, hg1⟩
 have HBF1 := hid (bf.grow hg1)
 have HN1 : Hid (NS w1 w1.heap.size .i64 (some ⟨gr, 0, none⟩) nn nn row) := NS.of_blkN hbr HRl.out (by unfold maxLen; omega) hbr.lt rfl
 have HG1 : Hid (Grow w w1) := hg0.trans hg1
 have HBW : Hid (w.heap.size < w1.heap.size) := hid HBF1.out.lt
 clear bf hg0 hg1 hbr HRo
 go_wp2_with fail
 obtain ⟨B, hB⟩ : ∃ B, B = w1.heap.size := ⟨_, rfl⟩
 rw [← hB] at HBW HN1
 have HBle : Hid (w.heap.size ≤ B) := hid (Nat.le_of_lt HBW.out)
 go_loopw [9, 10] (fun x i wr => ∃ (k q : Nat) (A2 : Option Addr) (c2 : Nat), k ≤ m ∧ q = k * sz ∧ i = .int .i64 q ∧ x = .slice A2 k c2 ∧ ZO wr B 68 4 A2 k c2 ((relsTo l wide adds big k).map Re.C) ∧
  Blk wr w.heap.size 23 #[.bool wide, .bool big] ∧ NS wr B .i64 (some ⟨gr, 0, none⟩) nn nn row ∧ B ≤ wr.heap.size ∧ Grow w wr) (fun _ i _ => l.length - (intOf i).toNat)
 case atStart => exact ⟨0, 0, none, 0, Nat.zero_le _, by omega, rfl, rfl, ZO.nil, HBF1.out, HN1.out, by omega, HG1.out⟩
 case round =>
  obtain ⟨k, q, A2, c2, hk, hq, rfl, rfl, ho, hbf, hns, hB1, hg⟩ := hrel
  have HO := hid ho
  have HBF := hid hbf
  have HN := hid hns
  have HBs := hid hB1
  have HG := hid hg
  have HQ := hid hq
  clear ho hbf hg hns hB1 hB HBF1 HN1 HG1
  have HKm : Hid (k < m → q + sz ≤ l.length) := hid (fun hlt => by
   have e1 := HDM.out
   have : (k + 1) * sz ≤ m * sz := Nat.mul_le_mul_right sz hlt
   rw [Nat.succ_mul, Nat.mul_comm m sz, ← hq] at this
   omega)
  have HKe : Hid (k = m → q + r = l.length) := hid (fun e => by rw [hq, e, Nat.mul_comm]; exact HDM.out)
  clear hq
  by_cases hlt : q < l.length
  ·obtain ⟨b, off, rfl, -, -⟩ := HR.out.pos (by omega)
   have z1 : (q : Int) < (l.length : Int) := by omega
   have z2 : IntKind.u64.wrap (q : Int) = (q : Int) := by rw [IntKind.wrap_u64]; omega
   obtain ⟨f0, f1⟩ := HBF.out.c2
   go_wp2_with fail
   clear f0 f1 z1 z2
   have HBz : Hid (∀ W : World, B ≤ W.heap.size → NS W B .i64 (some ⟨gr, 0, none⟩) nn nn row → NS W W.heap.size .i64 (some ⟨gr, 0, none⟩) nn nn row) := hid (fun W h1 h2 => h2.more h1)
   refine (numbersRef_any _ l.length c l q _ nn nn row big _ (HR.out.grow HG.out) (HBz.out _ HBs.out HN.out) (by omega) HFi.out (by rw [HRl.out]; omega) (by rw [HRl.out]; omega)).mono ?_
   rintro e w5 hnb
   rw [Numbed, HSu.out, HRl.out] at hnb
   rcases hnb with ⟨hin, A4, c4, rfl, ho5, hg5⟩ | ⟨hbad, rfl, hg5⟩
   ·obtain ⟨x0, x1, x2, hx, h0, h1, h2, hsy⟩ := HX6.out q
    rw [hx] at ho5
    obtain ⟨gn, cs, rfl, hle4, hbn, hc4, hcells⟩ := ho5.atR HNN.out.symm
    have HCells := hid hcells
    have HBN := hid hbn
    have HB5 := hid (HBF.out.grow hg5)
    have HNe : Hid (own A2 ≠ some gn) := hid (HO.out.ne (.inr hle4))
    have HNw : Hid (own A2 ≠ some w.heap.size) := hid (HO.out.ne (.inl HBW.out))
    have HO5 := hid (HO.out.keep hg5)
    have HN5 := hid (HN.out.belowAt hg5 HBs.out)
    have HS5 : Hid (B ≤ w5.heap.size) := hid (Nat.le_trans HBs.out hg5.size)
    have HG5 : Hid (Grow w w5) := HG.out.trans hg5
    have hkm : k < m := by
     rcases Nat.lt_or_ge k m with h1 | h1
     ·exact h1
     ·have e1 := HKe.out (by omega)
      have := HRs.out
      omega
    have HT1 := hid (HTo.out k)
    rw [← HQ.out, hsy] at HT1
    have HIn := hid hin
    have n0 : (0 : Int) < (nn : Int) := by omega
    have n1 : (1 : Int) < (nn : Int) := by omega
    clear hin hle4 hbn hcells hx hsy ho5 hg5 HBF HO HN HBs HG HKe HKm
    obtain ⟨y0, y1, y2⟩ := HCells.out w5 HBN.out
    clear y1 y2
    go_wp2_with (refine wpList_store_row rfl 68 (.tmp 13) (.tmp 41) rfl w5.heap.size #[.int .u64 (x0 : Int), .int .u32 0, .int .u32 0, .int .i64 0] rfl rfl _ _ (Blk.new _ _ _) (by kernel_rfl) rfl (by simp [Value.oneCell']) ?_; rw [World.setRow_alloc_new]; refine Hid.out ?_)
    generalize hW : World.alloc _ _ = w6
    obtain ⟨br, hg6⟩ := blk1 hW
    have HR6 := hid br
    have HG6 := hid hg6
    have HS8 : Hid (w5.heap.size ≤ w5.heap.size) := hid (Nat.le_refl _)
    have HL8 : Hid (gn < w5.heap.size ∧ w.heap.size < w5.heap.size) := hid ⟨HBN.out.lt, HB5.out.lt⟩
    generalize hg8 : w5.heap.size = g8 at HR6 HL8 ⊢
    have HS8 : Hid (w5.heap.size ≤ g8) := hid (by omega)
    clear hW br hg6 y0 n0 n1 hg8
    obtain ⟨s, hs⟩ : ∃ s, s = x1 / reK wide := ⟨_, rfl⟩
    obtain ⟨t, ht⟩ : ∃ t, t = x1 % reK wide := ⟨_, rfl⟩
    obtain ⟨ad, had⟩ : ∃ a : Int, a = if adds then sg wide x2 else 0 := ⟨_, rfl⟩
    rw [← hs, ← ht, ← had] at HT1
    have hst : ((wide = true ∧ (x1 : Int).tdiv 4294967296 = (s : Int) ∧ (x1 : Int).tmod 4294967296 = (t : Int)) ∨ (wide = false ∧ (x1 : Int).tdiv 256 = (s : Int) ∧ (x1 : Int).tmod 256 = (t : Int))) ∧ IntKind.u32.wrap (s : Int) = (s : Int) ∧ IntKind.u32.wrap (t : Int) = (t : Int) ∧ IntKind.u64.wrap (s : Int) = (s : Int) := by
     rw [IntKind.wrap_u32, IntKind.wrap_u32, IntKind.wrap_u64]
     cases wide
     ·rw [show reK false = 256 from rfl] at hs ht
      rw [show reM false = 4294967296 from rfl] at h1
      refine ⟨.inr ⟨rfl, by rw [hs]; exact (Int.ofNat_tdiv x1 256).symm, by rw [ht]; exact (Int.ofNat_tmod x1 256).symm⟩, by omega, by omega, by omega⟩
     ·rw [show reK true = 4294967296 from rfl] at hs ht
      rw [show reM true = 18446744073709551616 from rfl] at h1
      refine ⟨.inl ⟨rfl, by rw [hs]; exact (Int.ofNat_tdiv x1 4294967296).symm, by rw [ht]; exact (Int.ofNat_tmod x1 4294967296).symm⟩, by omega, by omega, by omega⟩
    have hda : (adds = false ∧ ad = 0) ∨ (adds = true ∧ (wide = true ∨ decide ((2147483648 : Int) ≤ (x2 : Int)) = false) ∧ IntKind.i64.wrap (x2 : Int) = ad) ∨
      (adds = true ∧ wide = false ∧ decide ((2147483648 : Int) ≤ (x2 : Int)) = true ∧ IntKind.i64.wrap (x2 : Int) = (x2 : Int) ∧ IntKind.i64.wrap ((x2 : Int) - 4294967296) = ad) := by
     rw [IntKind.wrap_i64, IntKind.wrap_i64]
     cases adds
     ·exact .inl ⟨rfl, had⟩
     ·simp only [if_true] at had
      cases wide
      ·simp only [sg, reM, byWide, Bool.false_eq_true, if_false] at had h2
       by_cases hb : (2147483648 : Int) ≤ (x2 : Int)
       ·refine .inr (.inr ⟨rfl, rfl, decide_eq_true hb, by omega, ?_⟩)
        rw [had, if_neg (by omega)]
        omega
       ·refine .inr (.inl ⟨rfl, .inr (decide_eq_false hb), ?_⟩)
        rw [had, if_pos (by omega)]
        omega
      ·simp only [sg, reM, byWide, if_true] at had h2
       refine .inr (.inl ⟨rfl, .inl rfl, ?_⟩)
       rw [had]
       split <;> omega
    clear hs ht had h0 h1 h2
    obtain ⟨hst, u1, u2, u3⟩ := hst
    have HR7 := hid (HR6.out.put1R (.int .u32 (s : Int)))
    have HG7 := hid (Grow.cellset HG6.out HS8.out 1 (.int .u32 (s : Int)))
    have HR8 := hid (HR7.out.put2 (.int .u32 (t : Int)))
    have HG8 := hid (Grow.cellset HG7.out HS8.out 2 (.int .u32 (t : Int)))
    refine hid (wpList_nil ?_)
    unfold Exit.then
    apply_assumption
    apply wp_seq_k
    intro K1 hK1
    refine wp_cut (fun a a' w' => ((w6.setCell ⟨g8, 1, none⟩ (.int .u32 (s : Int))).setCell ⟨g8, 2, none⟩ (.int .u32 (t : Int))) = w' ∧ a' = ⟨(a.tmps.toList.take 42 ++ (a'.tmps.toList.drop 42).take 26 ++ a.tmps.toList.drop 68).toArray, a.defers⟩ ∧ ((a'.tmps.toList.drop 42).take 26).length = 26) ?_ ?_
    ·have h2n : adds = true ∧ nn = 3 ∨ adds = false ∧ nn = 2 := by
      have := HNN.out
      cases adds
      ·exact .inr ⟨rfl, this.symm⟩
      ·exact .inl ⟨rfl, this.symm⟩
     obtain ⟨-, c61, -, -⟩ := HR6.out.c4
     have f61 := HR6.out.soft 1
     obtain ⟨-, -, c72, -⟩ := HR7.out.c4
     have f72 := HR7.out.soft 2
     obtain ⟨g60, -⟩ := (HB5.out.grow HG6.out).c2
     obtain ⟨-, y61, -⟩ := HCells.out _ (HBN.out.grow HG6.out)
     obtain ⟨-, y71, -⟩ := HCells.out _ (HBN.out.grow HG7.out)
     clear hda HT1 HR6 HR7 HR8 HG6 HG7 HG8 HB5 HO5 HN5 HCells HBN HNN HN3 hn2 hn3 hK1 hk hkm hlt hm1 hr1 hs0 hs24 hcp hmx h10
     rcases h2n with ⟨-, rfl⟩ | ⟨-, rfl⟩
     all_goals
      rcases hst with ⟨rfl, v3, v4⟩ | ⟨rfl, v3, v4⟩
     all_goals
      go_wp2
      done
    ·rintro a' w' ⟨rfl, ha, hl⟩
     generalize (a'.tmps.toList.drop 42).take 26 = vs at ha hl
     obtain ⟨a0, a1, a2, a3, a4, a5, a6, a7, a8, a9, a10, a11, a12, a13, a14, a15, a16, a17, a18, a19, a20, a21, a22, a23, a24, a25, rfl⟩ := list26 hl
     subst ha
     clear hl hst u1 u2 u3
     apply hK1
     simp only [List.take_succ_cons, List.take_zero, List.drop_succ_cons, List.drop_zero, List.cons_append, List.nil_append]
     generalize World.setCell _ _ _ = w7 at HR8 HG8 ⊢
     clear hK1 K1 HR6 HR7 HG6 HG7
     apply wp_seq_k
     intro K2 hK2
     refine wp_cut (fun a a' w' => Blk w' g8 68 #[.int .u64 (x0 : Int), .int .u32 (s : Int), .int .u32 (t : Int), .int .i64 ad] ∧ Grow w5 w' ∧ a' = ⟨(a.tmps.toList.take 68 ++ (a'.tmps.toList.drop 68).take 21 ++ a.tmps.toList.drop 89).toArray, a.defers⟩ ∧ ((a'.tmps.toList.drop 68).take 21).length = 21) ?_ ?_
     ·clear HT1 hK2 hk hkm hlt hm1 hr1 hs0 hs24 hcp hmx h10 HO5 HN5
      rcases hda with ⟨rfl, rfl⟩ | ⟨rfl, hwn, v1⟩ | ⟨rfl, rfl, hbg, v1, v2⟩
      ·clear HCells HBN HB5
       go_wp2
       exact ⟨HR8.out, HG8.out⟩
      ·obtain rfl : nn = 3 := HNN.out.symm
       have HRL := hid (HR8.out.put3 (.int .i64 ad))
       have HGL := hid (Grow.cellset HG8.out HS8.out 3 (.int .i64 ad))
       obtain ⟨-, -, -, c83⟩ := HR8.out.c4
       have f83 := HR8.out.soft 3
       obtain ⟨-, -, y82⟩ := HCells.out _ (HBN.out.grow HG8.out)
       have y82 := y82 (by first | rfl | trivial)
       obtain ⟨-, -, y92⟩ := HCells.out _ (HBN.out.grow HGL.out)
       have y92 := y92 (by first | rfl | trivial)
       obtain ⟨g90, -⟩ := (HB5.out.grow HGL.out).c2
       clear HCells HBN HB5 hn2 hn3 HNN HN3
       rcases hwn with rfl | hbg
       ·go_wp2
        exact ⟨HRL.out, HGL.out⟩
       ·cases wide
        all_goals
         go_wp2
         exact ⟨HRL.out, HGL.out⟩
      ·obtain rfl : nn = 3 := HNN.out.symm
       have HR9 := hid (HR8.out.put3 (.int .i64 (x2 : Int)))
       have HG9 := hid (Grow.cellset HG8.out HS8.out 3 (.int .i64 (x2 : Int)))
       have HRL := hid (HR9.out.put3 (.int .i64 ad))
       have HGL := hid (Grow.cellset HG9.out HS8.out 3 (.int .i64 ad))
       obtain ⟨-, -, -, c83⟩ := HR8.out.c4
       have f83 := HR8.out.soft 3
       obtain ⟨-, -, -, c93⟩ := HR9.out.c4
       have f93 := HR9.out.soft 3
       obtain ⟨-, -, y82⟩ := HCells.out _ (HBN.out.grow HG8.out)
       have y82 := y82 (by first | rfl | trivial)
       obtain ⟨-, -, y92⟩ := HCells.out _ (HBN.out.grow HG9.out)
       have y92 := y92 (by first | rfl | trivial)
       obtain ⟨g90, -⟩ := (HB5.out.grow HG9.out).c2
       clear HG9 HR9 HCells HBN HB5 hn2 hn3 HNN HN3
       go_wp2
       exact ⟨HRL.out, HGL.out⟩
     ·rintro a' WL ⟨hrl, hgl, ha, hl⟩
      generalize (a'.tmps.toList.drop 68).take 21 = vs at ha hl
      obtain ⟨b0, b1, b2, b3, b4, b5, b6, b7, b8, b9, b10, b11, b12, b13, b14, b15, b16, b17, b18, b19, b20, rfl⟩ := list21 hl
      subst ha
      clear hl hda
      apply hK2
      simp only [List.take_succ_cons, List.take_zero, List.drop_succ_cons, List.drop_zero, List.cons_append, List.nil_append]
      have HRL := hid hrl
      have HOL := hid (HO5.out.keep hgl)
      have HBL := hid (HB5.out.grow hgl)
      have HNL := hid (HN5.out.belowAt hgl HS5.out)
      have HSL : Hid (B ≤ WL.heap.size) := hid (Nat.le_trans HS5.out hgl.size)
      have HGw : Hid (Grow w WL) := HG5.out.trans hgl
      clear hrl hgl HR8 HG8 HO5 HB5 HN5 HG5 HCells HBN hK2 K2
      go_wp2_with (first | (refine wpList_load_row rfl 68 (.tmp 13) rfl g8 rfl _ _ (0, 0) _ HRL.out Try.underlying68 rfl (by kernel_rfl) ?_; refine Hid.out ?_))
      refine hid ?_
      clear HRL
      have hsz : B ≤ (WL.alloc (.cells #[.int .u64 (x0 : Int), .int .u32 (s : Int), .int .u32 (t : Int), .int .i64 ad] 68)).heap.size := Nat.le_trans HSL.out (Grow.of_alloc WL _).size
      have HSz := hid hsz
      have HNu := hid (Blk.new WL 68 #[.int .u64 (x0 : Int), .int .u32 (s : Int), .int .u32 (t : Int), .int .i64 ad])
      have HOA := hid (HOL.out.keep (Grow.of_alloc WL (.cells #[.int .u64 (x0 : Int), .int .u32 (s : Int), .int .u32 (t : Int), .int .i64 ad] 68)))
      clear hsz
      go_wp2_with (first | (refine wpList_appendZ (WL.alloc (.cells #[.int .u64 (x0 : Int), .int .u32 (s : Int), .int .u32 (t : Int), .int .i64 ad] 68)) rfl (.tmp 89) (.tmp 91) 63 rfl B 68 re0.V 4 24 Try.underlying63 (by kernel_rfl) rfl (by omega) A2 k c2 _ rfl HOA.out WL.heap.size _ _ rfl HNu.out rfl (by simp [Value.oneCell']) (by unfold maxLen; omega) (by omega) HSz.out ?_; intro A5 c5 w9 ho9 hg9 _; refine Hid.out ?_))
      have hal : Below B WL (WL.alloc (.cells #[.int .u64 (x0 : Int), .int .u32 (s : Int), .int .u32 (t : Int), .int .i64 ad] 68)) := Below.alloc (Below.refl _ _) HSL.out _
      have hb9 : Below B WL w9 := hal.trans ((Below.refl _ _).grown hg9 HSz.out (fun j hj => HOL.out.ge hj))
      have HB9 := hid (HBL.out.below hb9 HBW.out)
      have HN9 := hid (HNL.out.belowAt hb9 (Nat.le_refl _))
      have HS9 : Hid (B ≤ w9.heap.size) := hid (Nat.le_trans HSL.out hb9.size)
      have HG9 : Hid (Grow w w9) := HGw.out.trans' (hb9.mono HBle.out)
      have HO9 : Hid (ZO w9 B 68 4 A5 (k + 1) c5 ((relsTo l wide adds big (k + 1)).map Re.C)) := by
       rw [HT1.out, List.map_append, List.map_cons, List.map_nil]; exact ho9
      clear ho9 hg9 hal hb9 HOL HBL HNL HSL HGw HSz HNu HOA
      refine hid ?_
      go_wp2_with fail
      refine (sumRef_any _ _ _ row w9 (HBz.out _ HS9.out HN9.out) (by rw [HRl.out]; omega) HF8.out).mono ?_
      rintro e w10 ⟨rfl, rfl⟩
      rw [HSu.out]
      have z4 : IntKind.i64.wrap ((q : Int) + (sz : Int)) = ((q + sz : Nat) : Int) := by rw [IntKind.wrap_i64]; omega
      go_wp2_with fail
      go_roundw
      case rel => exact ⟨k + 1, q + sz, A5, c5, by omega, by rw [HQ.out, Nat.succ_mul], rfl, rfl, HO9.out, HB9.out, HN9.out, HS9.out, HG9.out⟩
      case measure => simp [intOf]; omega
   ·have HG5 : Hid (Grow w w5) := HG.out.trans hg5
    have hkm : k = m := by
     rcases Nat.lt_or_ge k m with h1 | h1
     ·have e1 := HKm.out h1
      omega
     ·omega
    have he : q = l.length - r := by have := HKe.out hkm; omega
    have HE := hid he
    have HR0 : Hid (r ≠ 0) := hid (by omega)
    clear hbad hg5 he
    go_wp2
    go_ret2
    exact .inr ⟨HR0.out, by rw [HE.out]; rfl, HG5.out⟩
  ·have z1 : ¬ (q : Int) < (l.length : Int) := by omega
   have hkm : k = m := by
    rcases Nat.lt_or_ge k m with h1 | h1
    ·have e1 := HKm.out h1
     omega
    ·omega
   have hr0 : r = 0 := by have := HKe.out hkm; omega
   have HR0 := hid hr0
   subst hkm
   clear hr0
   go_wp2
   go_ret2
   exact .inl ⟨HR0.out, A2, c2, rfl, by rw [HSy.out]; exact HO.out.mono HBle.out, HG.out⟩
set_option maxRecDepth 100000
set_option linter.unusedVariables false
theorem rAllD_uni (A : Option Addr) (n c : Nat) (l : List UInt8) (wide big : Bool) (w : World) (h : RB w w.heap.size A n c l) (h10 : l.length ≤ 100000) :
  Calls Try.prog 54 #[.slice A n c, .agg #[.bool wide, .bool big]] w fun e w' => ∃ A2 n2 c2 at_, e = .returned (.tuple #[.slice A2 n2 c2, .int .i64 at_]) ∧ (at_ < 0 → ZO w' w.heap.size 77 2 A2 n2 c2 ((entsOf l wide big).map Dy.C)) ∧ (0 ≤ at_ → entsOf l wide big = []) ∧ Grow w w' := by
 refine (rAllDO_any A n c l wide big w h h10).mono ?_
 rintro e w' (⟨hi, A2, c2, rfl, h2, hg⟩ | ⟨hi, rfl, hg⟩)
 ·exact ⟨A2, _, c2, -1, rfl, fun _ => by unfold entsOf; rw [if_pos hi]; exact h2, fun h => absurd h (by omega), hg⟩
 ·exact ⟨none, 0, 0, _, rfl, fun h => absurd h (by omega), fun _ => by unfold entsOf; rw [if_neg (by rw [hi]; decide)], hg⟩
theorem rAllE_uni (A : Option Addr) (n c : Nat) (l : List UInt8) (wide adds big : Bool) (w : World) (h : RB w w.heap.size A n c l) (h10 : l.length ≤ 100000) :
  Calls Try.prog 51 #[.slice A n c, .agg #[.bool wide, .bool big], .bool adds] w fun e w' => ∃ A2 n2 c2 at_, e = .returned (.tuple #[.slice A2 n2 c2, .int .i64 at_]) ∧ (at_ < 0 → ZO w' w.heap.size 68 4 A2 n2 c2 ((relsIf l wide adds big).map Re.C)) ∧ (0 ≤ at_ → relsIf l wide adds big = []) ∧ Grow w w' := by
 refine (rAllEO_any A n c l wide adds big w h h10).mono ?_
 rintro e w' (⟨hi, A2, c2, rfl, h2, hg⟩ | ⟨hi, rfl, hg⟩)
 ·exact ⟨A2, _, c2, -1, rfl, fun _ => by unfold relsIf; rw [if_pos hi]; exact h2, fun h => absurd h (by omega), hg⟩
 ·exact ⟨none, 0, 0, _, rfl, fun h => absurd h (by omega), fun _ => by unfold relsIf; rw [if_neg hi], hg⟩
set_option maxHeartbeats 4000000 in
theorem rEnts_any (m : Md) (ok : m.Ok) (hsm : m.Small) (A1 : Option Addr) (n1 c1 : Nat) (A2 : Option Addr) (n2 c2 : Nat) (w : World) (g1 : ZR sgK w w.heap.size A1 n1 c1 m.segs) :
  Calls Try.prog 29 #[.agg (mdC m (.slice A1 n1 c1) (.slice A2 n2 c2))] w fun e w' => ∃ AL nL cL, e = .returned (.slice AL nL cL) ∧ ZO w' w.heap.size 77 2 AL nL cL (m.ents.map Dy.C) ∧ Grow w w' := by
 have HS := hid g1
 have HL := hid g1.len
 have HDy := hid (fun W (hW : Grow w W) => rDynN_any m A1 A2 n1 c1 n2 c2 W (g1.grow hW))
 have HBy : Hid (∀ (s : Sg), s ∈ m.segs → ∀ A n c W, Grow w W → RB W W.heap.size A n c s.pl.own → Calls Try.prog 55 #[.agg (mdC m (.slice A1 n1 c1) (.slice A2 n2 c2)), .agg (plC s.pl (.slice A n c))] W (NewB (m.bytes s.pl) W)) := hid fun s hs A n c W hW g => rBytes_any m A1 A2 n1 c1 n2 c2 s.pl (ok.segs s hs).pl A n c W (g1.grow hW) g (Nat.le_trans (Md.bytes_le hsm (hsm s hs)) (by decide))
 have HAl := hid (fun (s : Sg) (hs : s ∈ m.segs) A n c W h => rAllD_uni A n c (m.bytes s.pl) m.wide m.big W h (Md.bytes_le hsm (hsm s hs)))
 have HDN : Hid (dynN m = if m.hasDyn then (m.dynI : Int) else -1) := hid rfl
 have HEo := hid m.ents_of
 have HHd : Hid (m.hasDyn = decide (m.dynI < m.segs.length)) := hid rfl
 have HDb : Hid (∀ h : m.dynI < m.segs.length, m.dynB = m.bytes m.segs[m.dynI].pl) := hid fun h => by unfold Md.dynB Md.dynS; rw [getD_at h]
 have hcc := g1.cap
 have hcm := g1.max
 unfold maxLen at hcm
 obtain ⟨x2, x3, x4, x5, x6, x7, x10, hC⟩ : ∃ x2 x3 x4 x5 x6 x7 x10 : Value, mdC m (.slice A1 n1 c1) (.slice A2 n2 c2) = #[.bool m.wide, .bool m.big, x2, x3, x4, x5, x6, x7, .slice A1 n1 c1, .slice A2 n2 c2, x10] := ⟨_, _, _, _, _, _, _, rfl⟩
 rw [hC] at HBy HDy ⊢
 clear hC g1 ok hsm
 generalize m.ents = DE at *
 generalize m.dynB = DB at *
 generalize m.dynI = F at *
 generalize m.hasDyn = HD at *
 generalize dynN m = DN at *
 generalize m.bytes = by_ at *
 generalize m.wide = wi at *
 generalize m.big = bi at *
 generalize m.segs = l at *
 go_enter Try.func29, Try.ntmps29
 go_wp2_with fail
 generalize hW : World.alloc _ _ = W0
 obtain ⟨b1, hg0⟩ := blk1 hW
 clear hW
 refine (HDy.out W0 hg0).mono ?_
 rintro e w1 ⟨rfl, hg⟩
 have HB1 := hid (b1.grow hg)
 have HG1 : Hid (Grow w w1) := hid (hg0.trans hg)
 clear b1 hg0 hg HDy
 generalize w.heap.size = gm at HB1 ⊢
 cases HD with
 | false =>
  have hN : DN = -1 := HDN.out
  subst hN
  have hE : DE = [] := HEo.out
  subst hE
  go_wp2
  go_ret
  exact ⟨none, 0, 0, rfl, ZO.nil, HG1.out⟩
 | true =>
  have hN : DN = (F : Int) := HDN.out
  subst hN
  have hFl : F < l.length := of_decide_eq_true HHd.out.symm
  have hDB := HDb.out hFl
  have hE : DE = entsOf DB wi bi := HEo.out
  rw [hDB] at hE
  have HE := hid hE
  obtain ⟨b, off, rfl, hb⟩ := HS.out.pos (by have := HL.out; omega)
  obtain ⟨A3, nk, ck, -, hcell, hby⟩ := HS.out.at hFl
  have hby' : RB w w.heap.size A3 nk ck l[F].pl.own := hby.more (Nat.le_refl _)
  have HRB := hid (hby'.grow HG1.out)
  have HByk := hid (HBy.out l[F] (List.getElem_mem hFl))
  have HAlk := hid (HAl.out l[F] (List.getElem_mem hFl))
  have HCe : Hid (∀ i v, (sgC l[F] (.slice A3 nk ck))[i]? = some v → w1.cell? ⟨b, off + F * 10 + i, none⟩ = some v) := hid fun i v hv => (Below.cell HG1.out hb).trans (hcell i v hv)
  have HBb := hid (Nat.lt_of_lt_of_le hb HG1.out.size)
  have d1 : decide ((F : Int) < 0) = false := decide_eq_false (by omega)
  have i1 : (F : Int) < (n1 : Int) := by have := HL.out; omega
  have i0 : (0 : Int) ≤ (F : Int) := by omega
  clear hE hDB hcell hby hby' hb HBy HAl HDN HEo HHd HDb HS HL
  unfold plC at HByk
  have q6 : w1.cell? ⟨b, off + F * 10 + 6, none⟩ = some (.int .i64 l[F].pl.inn) := HCe.out 6 _ rfl
  have q7 : w1.cell? ⟨b, off + F * 10 + 7, none⟩ = some (.int .u64 (l[F].pl.off : Nat)) := HCe.out 7 _ rfl
  have q8 : w1.cell? ⟨b, off + F * 10 + 8, none⟩ = some (.int .u64 (l[F].pl.size : Nat)) := HCe.out 8 _ rfl
  have q9 : w1.cell? ⟨b, off + F * 10 + 9, none⟩ = some (.slice A3 nk ck) := HCe.out 9 _ rfl
  generalize entsOf (by_ l[F].pl) wi bi = EE at *
  generalize by_ l[F].pl = bl at *
  generalize l[F] = s at *
  clear hFl
  generalize s.pl.own = so at *
  generalize s.pl.inn = y6 at *
  generalize s.pl.off = y7 at *
  generalize s.pl.size = y8 at *
  clear HCe
  have HQ : Hid (∀ W, Grow w1 W → W.cell? ⟨b, off + F * 10 + 6, none⟩ = some (.int .i64 y6) ∧ W.cell? ⟨b, off + F * 10 + 7, none⟩ = some (.int .u64 (y7 : Nat)) ∧ W.cell? ⟨b, off + F * 10 + 8, none⟩ = some (.int .u64 (y8 : Nat)) ∧ W.cell? ⟨b, off + F * 10 + 9, none⟩ = some (.slice A3 nk ck)) := hid fun W hW =>
   ⟨(Below.cell hW HBb.out).trans q6, (Below.cell hW HBb.out).trans q7, (Below.cell hW HBb.out).trans q8, (Below.cell hW HBb.out).trans q9⟩
  clear q6 q7 q8 q9 HBb
  go_wp2_with fail
  refine wp_region_chain [(0, true), (1, true), (2, true), (3, true), (4, true), (5, true), (6, true), (8, true), (9, true), (10, true), (7, false), (11, false), (12, true), (13, true), (14, true), (15, true), (16, true)] (by kernel_rfl) (by kernel_rfl) (by kernel_rfl) ?_
  have HB2 := hid HB1.out.drew
  have HG2 : Hid (Grow w w1.drew) := hid (HG1.out.trans (Grow.of_drew _))
  have HRB2 : Hid (RB w1.drew w1.drew.heap.size A3 nk ck so) := hid HRB.out.drew
  have HQ3 := hid (fun W (hW : Grow w1.drew W) => HQ.out W ((Grow.of_drew _).trans hW))
  clear HB1 HG1 HRB HQ
  generalize w1.drew = V0 at *
  have q0 : ∀ W, Grow V0 W → _ := fun W hW => (HB2.out.grow hW).c11
  repeat (refine chain_take rfl (by rfl) ?_ (fun W hG => ?_) ?_; rotate_left; (obtain ⟨v0, v1, v2, v3, v4, v5, v6, v7, v8, v9, v10⟩ := q0 W hG; obtain ⟨t6, t7, t8, t9⟩ := HQ3.out W hG; go_simp; rfl); simp only [Act.put, List.setIfInBounds_toArray, List.set_cons_zero, List.set_cons_succ])
  clear q0
  refine chain_only rfl (by rfl) (fun K hK => ?_)
  go_simp
  refine (HByk.out A3 nk ck V0 HG2.out HRB2.out).mono ?_
  rintro e v1 ⟨A5, c5, rfl, ho, hg⟩
  refine hK _ _ hg ?_
  clear hK K
  have HG3 : Hid (Grow w v1) := hid (HG2.out.trans hg)
  have HO3 := hid ho.rb
  clear hg ho HB2 HG2 HRB2 HByk HQ3
  refine chain_only rfl (by rfl) (fun K hK => ?_)
  go_simp
  refine (HAlk.out A5 _ c5 v1 HO3.out).mono ?_
  rintro e v2 ⟨A6, n6, c6, at_, rfl, hz1, hz2, hg⟩
  refine hK _ _ hg ?_
  clear hK K
  have HG4 : Hid (Grow w v2) := hid (HG3.out.trans hg)
  have HZ1 := hid (fun h => (hz1 h).mono HG3.out.size)
  have HZ2 := hid hz2
  clear hg hz1 hz2 HG3 HO3 HAlk
  repeat (refine chain_take rfl (by rfl) ?_ (fun W hG => ?_) ?_; rotate_left; (go_simp; rfl); simp only [Act.put, List.setIfInBounds_toArray, List.set_cons_zero, List.set_cons_succ])
  refine chain_done ?_
  by_cases h0 : 0 ≤ at_
  ·have hR := hid (HZ2.out h0)
   have d2 : decide (0 ≤ at_) = true := decide_eq_true h0
   clear HZ1 HZ2 h0
   go_wp2
   go_ret
   exact ⟨none, 0, 0, rfl, by rw [HE.out, hR.out]; exact ZO.nil, HG4.out⟩
  ·have hR := hid (HZ1.out (by omega))
   have d2 : decide (0 ≤ at_) = false := decide_eq_false h0
   clear HZ1 HZ2 h0
   go_wp2
   go_ret
   exact ⟨A6, n6, c6, rfl, by rw [HE.out]; exact hR.out, HG4.out⟩
end Go.Proofs.Ytfpihkbpelbcbaa
