/-
  Several texts in one: The contract of gnu; The contract of the head of layer 12's statements; The contract of gnu; Slices of slices of bytes, of no bytes too, wherever they begin (at the end of their room too); append onto names of the call's own, from names of any place; a slice of names from a place on; The walk of layer 12's statement.
-/
import Derived.Test.YtfbimboemahhhaaGreatDoorTfG20
import Derived.Test.YtfbimboemahhhaaGreatDoorTfG18
import Derived.Test.YtfbimboemahhhaaGreatDoorTfG2
import Derived.Test.YtfbimboemahhhaaGreatDoorTfG3
import Derived.Test.YtfbimboemahhhaaGreatDoorTfG15
import Derived.Maps.AppendAt
import Derived.Test.YtfbimboemahhhaaGreatDoorTfG14
import Derived.Test.YtfbimboemahhhaaGreatDoorRows
import Derived.Lib.SmallJoins
namespace Go.Proofs.YtfbimboemahhhaaGreatDoor
open Go.Lib (hid)
open Go.RowKit
set_option maxRecDepth 100000
theorem low_bit (v : Nat) (hv : v < 4294967296) : bits .and .u64 (v : Int) 1 = ((v % 2 : Nat) : Int) := by
 have e1 := u64_and_nat v 1 (by omega) (by omega)
 rw [nat_mask1] at e1
 exact e1
theorem with_bit (v : Nat) (hv : v < 4294967296) : bits .or .u64 (v : Int) 1 = ((v / 2 * 2 + 1 : Nat) : Int) := by
 have e1 := u64_or_nat v 1 (by omega) (by omega)
 rw [or_one] at e1
 exact e1
set_option maxHeartbeats 4000000 in
set_option maxRecDepth 100000 in
theorem lookup_core (A : Option Addr) (n c : Nat) (l : List UInt8) (A' : Option Addr) (n' c' : Nat) (all : List Bs) (S : ByteArray) (s : Bs) (b f wd sh z n0 h word bt place : Nat) (wide big : Bool) (ch : Nat → Nat) (P J : Nat → Prop) (w : World)
  (hr : RB w w.heap.size A n c l) (ha : SS w w.heap.size A' n' c' all) (hlen : n' = f + n0) (hf : 1 ≤ f) (hf2 : f ≤ 65536) (hn0 : n0 ≤ 1000) (hb2 : b ≤ 1024) (hw2 : wd ≤ 1024) (hz8 : z ≤ 8) (hS : S = bstr s) (hs : S.size ≤ maxLen) (hh : gnH s = h)
  (hrd : ∀ W, RB W W.heap.size A n c l → Calls Tryz.prog 51 #[.slice A n c, .agg #[.bool wide, .bool big]] W fun e w' => e = .returned (.tuple #[.agg (shC b f wd sh z), .bool true]) ∧ Grow W w')
  (hfr : ∀ W, RB W W.heap.size A n c l → Calls Tryz.prog 53 #[.agg (shC b f wd sh z), .slice A n c, .int .u32 (h : Int), .agg #[.bool wide, .bool big]] W (FromR word bt place W))
  (hgt : ∀ i, i < n0 → 16 + wd * z + b * 4 + i * 4 + 4 ≤ l.length ∧ getB ((l.drop (16 + wd * z + b * 4 + i * 4)).take 4) big = ch i) (hch : ∀ i, ch i < 4294967296)
  (hno : word &&& bt ≠ bt → P 0) (hpz : place = 0 → P 0) (hpl : place ≠ 0 → ∃ i, i < n0 ∧ place = f + i ∧ J i)
  (hstep : ∀ i, i < n0 → J i → (ch i / 2 = h / 2 ∧ all.getD (f + i) [] = s ∧ P (f + i)) ∨ (all.getD (f + i) [] ≠ s ∧ ch i % 2 = 1 ∧ P 0) ∨ (all.getD (f + i) [] ≠ s ∧ ch i % 2 = 0 ∧ i + 1 < n0 ∧ J (i + 1))) :
  Calls Tryz.prog 15 #[.slice A n c, .slice A' n' c', .agg #[.bool wide, .bool big], .string S] w fun e w' => ∃ v : Nat, e = .returned (.tuple #[.int .i64 (v : Int), .bool (decide (0 < v))]) ∧ P v ∧ Grow w w' := by
 have HR := hid hr
 have HA := hid ha
 have HRd := hid hrd
 have HFr := hid hfr
 have HGt := hid hgt
 have HCh := hid hch
 have HNo := hid hno
 have HPz := hid hpz
 have HPl := hid hpl
 have HStep := hid hstep
 have HLen := hid hlen
 have HSS := hid hS
 have HSz := hid hs
 have HHs := hid (fun W => hash_any S s W hS hs)
 rw [hh] at HHs
 have h32 : h < 4294967296 := by rw [← hh]; exact gnH_lt s
 have HHA := hid (fun W => hashes_any b f wd sh z W hb2 hw2 hz8)
 have q1 : wd * z ≤ 1024 * 8 := Nat.mul_le_mul hw2 hz8
 obtain ⟨y, hy⟩ : ∃ y, y = 16 + wd * z + b * 4 := ⟨_, rfl⟩
 rw [← hy] at HHA HGt
 have hy2 : y < 20000 := by omega
 unfold shC at HRd HFr HHA
 have hn2 : n' < 100000 := by omega
 have hcn := ha.cap
 have hcm := ha.max
 unfold maxLen at hcm
 clear hr ha hlen hS hs hrd hfr hgt hch hno hpz hpl hstep hh hb2 hw2 hz8 q1 hy
 go_enter Tryz.func15, Tryz.ntmps15
 go_wp2_with fail
 generalize hW0 : World.alloc _ _ = W0
 obtain ⟨hb1, hgr⟩ := blk1 hW0
 obtain ⟨gf, hgf⟩ : ∃ g, g = w.heap.size := ⟨_, rfl⟩
 rw [← hgf] at hb1 ⊢
 have HF0 := hid hb1
 have HG0 := hid hgr
 clear hW0 hb1 hgr hgf
 refine (HRd.out _ ((HR.out.belowAt HG0.out (Nat.le_refl _)).more HG0.out.size)).mono ?_
 rintro e w1 ⟨rfl, hg⟩
 have HF1 := hid (HF0.out.grow hg)
 have HG1 := hid (HG0.out.trans hg)
 clear hg HF0 HG0 HRd
 go_wp2_with fail
 generalize hW2 : World.alloc _ _ = w2
 obtain ⟨hb2, hgr2⟩ := blk1 hW2
 obtain ⟨gx, hgx⟩ : ∃ g, g = w1.heap.size := ⟨_, rfl⟩
 rw [← hgx] at hb2 ⊢
 have HX2 := hid hb2
 have HF2 := hid (HF1.out.grow hgr2)
 have HG2 := hid (HG1.out.trans hgr2)
 clear hW2 hb2 hgr2 hgx HF1 HG1
 refine (HHs.out _).mono ?_
 rintro e w' ⟨rfl, rfl⟩
 obtain ⟨c0, c1, c2, c3, c4⟩ := HX2.out.c5
 obtain ⟨k0, k1⟩ := HF2.out.c2
 go_wp2_with fail
 refine (HFr.out _ ((HR.out.belowAt HG2.out (Nat.le_refl _)).more HG2.out.size)).mono ?_
 rintro e w3 ⟨hg, ⟨hno, rfl⟩ | ⟨hyes, rfl⟩⟩
 ·have HG3 := hid (HG2.out.trans hg)
  have HP := hid (HNo.out hno)
  clear hg hno HX2 HF2 HG2 c0 c1 c2 c3 c4 k0 k1
  go_wp2
  go_ret2
  exact ⟨0, rfl, HP.out, HG3.out⟩
 ·have HX3 := hid (HX2.out.grow hg)
  have HF3 := hid (HF2.out.grow hg)
  have HG3 := hid (HG2.out.trans hg)
  clear hg hyes HX2 HF2 HG2 c0 c1 c2 c3 c4 k0 k1
  by_cases hp0 : place = 0
  ·have hd : decide (place ≠ 0) = false := decide_eq_false (fun h => h hp0)
   have HP := hid (HPz.out hp0)
   rw [hd]
   clear hp0 hd
   go_wp2
   go_ret2
   exact ⟨0, rfl, HP.out, HG3.out⟩
  ·have hd : decide (place ≠ 0) = true := decide_eq_true hp0
   obtain ⟨i0, hi0, hpi, hJ⟩ := HPl.out hp0
   have HJ0 := hid hJ
   have HI0 := hid hi0
   have HPI := hid hpi
   rw [hd]
   clear hp0 hd hi0 hpi hJ
   go_wp2
   go_loopw [13] (fun p wr => ∃ i q : Nat, p = .int .u64 (q : Int) ∧ Hid (q = f + i) ∧ Hid (i < n0) ∧ Hid (J i) ∧ Blk wr gx 80 #[.int .u64 (b : Int), .int .u64 (f : Int), .int .u64 (wd : Int), .int .u64 (sh : Int), .int .u64 (z : Int)] ∧ Blk wr gf 23 #[.bool wide, .bool big] ∧ Grow w wr) (fun p _ => f + n0 - (intOf p).toNat)
   case atStart => exact ⟨i0, place, rfl, HPI, HI0, HJ0, HX3.out, HF3.out, HG3.out⟩
   case round =>
    obtain ⟨i, q, rfl, HQ, HI, HJ, hbx, hbf, hgr⟩ := hrel
    have HX := hid hbx
    have HF := hid hbf
    have HG := hid hgr
    clear HX3 HF3 HG3 HJ0 HI0 HPI hbx hbf hgr
    have hq1 := HQ.out
    have hi1 := HI.out
    have hn1 := HLen.out
    have e1 : IntKind.u64.wrap (n' : Int) = (n' : Int) := by rw [IntKind.wrap_u64]; omega
    have p1 : (q : Int) < (n' : Int) := by omega
    have e2 : IntKind.u64.wrap ((q : Int) - (f : Int)) = (i : Int) := by rw [IntKind.wrap_u64]; omega
    have e3 : IntKind.u64.wrap ((i : Int) * 4) = (i : Int) * 4 := by rw [IntKind.wrap_u64]; omega
    obtain ⟨x, hx⟩ : ∃ x, x = y + i * 4 := ⟨_, rfl⟩
    have e4 : IntKind.u64.wrap ((y : Int) + (i : Int) * 4) = (x : Int) := by rw [IntKind.wrap_u64]; omega
    obtain ⟨g1, g2⟩ := HGt.out i hi1
    rw [← hx] at g1 g2
    obtain ⟨v, hv⟩ : ∃ v, v = ch i := ⟨_, rfl⟩
    rw [← hv] at g2
    have hv32 : v < 4294967296 := by rw [hv]; exact HCh.out i
    have HGe := hid (fun B W (hW : RB W B A n c l) => (get_at A n c l B x 4 big v W hW (.inl rfl) g1 g2 : Calls Tryz.prog 54 #[_, _, .int .i64 4, _] _ _))
    have e5 := with_bit v hv32
    have e6 := with_bit h h32
    have e7 : IntKind.u64.wrap (h : Int) = (h : Int) := by rw [IntKind.wrap_u64]; omega
    have e8 := low_bit v hv32
    have e9 : IntKind.i64.wrap (q : Int) = (q : Int) := by rw [IntKind.wrap_i64]; omega
    have e10 : IntKind.u64.wrap ((q : Int) + 1) = (q : Int) + 1 := by rw [IntKind.wrap_u64]; omega
    have hqn : q < n' := by omega
    have HXc := HStep.out i hi1 HJ.out
    rw [← hv, ← hq1] at HXc
    have hi2 := hid hi1
    have HHX : Hid ((v / 2 = h / 2 ∧ all.getD q [] = s ∧ P q) ∨ (all.getD q [] ≠ s ∧ v % 2 = 1 ∧ P 0) ∨ (all.getD q [] ≠ s ∧ v % 2 = 0 ∧ i + 1 < n0 ∧ J (i + 1))) := hid HXc
    have HQ2 : Hid (f + (i + 1) = q + 1 ∧ q < f + n0 ∧ 0 < q) := hid (by omega)
    clear hx hv g1 g2 hq1 hi1 hn1 HXc hi2
    go_wp2_with fail
    have HXW : Hid (∀ W, Grow wr.drew W → (W.cell? ⟨gx, 0, none⟩ = some (.int .u64 (b : Int)) ∧ W.cell? ⟨gx, 1, none⟩ = some (.int .u64 (f : Int)) ∧ W.cell? ⟨gx, 2, none⟩ = some (.int .u64 (wd : Int)) ∧ W.cell? ⟨gx, 3, none⟩ = some (.int .u64 (sh : Int)) ∧ W.cell? ⟨gx, 4, none⟩ = some (.int .u64 (z : Int))) ∧ W.cell? ⟨gf, 0, none⟩ = some (.bool wide) ∧ W.cell? ⟨gf, 1, none⟩ = some (.bool big)) :=
     hid fun W hW => ⟨((HX.out.drew).grow hW).c5, ((HF.out.drew).grow hW).c2⟩
    refine wp_region_chain [(0, true), (1, true), (3, true), (4, true), (5, true), (6, true), (7, true), (9, true), (10, true), (2, false), (8, true), (11, false), (12, true), (13, true), (14, true), (15, true), (16, true)] (by kernel_rfl) (by kernel_rfl) (by kernel_rfl) ?_
    have HX4 : Hid (Blk wr.drew gx 80 #[.int .u64 (b : Int), .int .u64 (f : Int), .int .u64 (wd : Int), .int .u64 (sh : Int), .int .u64 (z : Int)]) := HX
    have HF4 : Hid (Blk wr.drew gf 23 #[.bool wide, .bool big]) := HF
    have HG4 : Hid (Grow w wr.drew) := hid (HG.out.trans (Grow.of_drew _))
    generalize wr.drew = w4 at HXW HX4 HF4 HG4 ⊢
    repeat (refine chain_take rfl (by rfl) ?_ (fun W hG => ?_) ?_; rotate_left; (obtain ⟨⟨q1, q2, q3, q4, q5⟩, q6, q7⟩ := HXW.out W hG; go_simp; rfl); simp only [Act.put, List.setIfInBounds_toArray, List.set_cons_zero, List.set_cons_succ])
    clear HXW
    refine chain_only rfl (by rfl) (fun K hK => ?_)
    go_simp
    refine (HHA.out _).mono ?_
    rintro e w5 ⟨rfl, hg⟩
    refine hK _ _ hg ?_
    clear hK K
    have HX5 := hid (HX4.out.grow hg)
    have HF5 := hid (HF4.out.grow hg)
    have HG5 := hid (HG4.out.trans hg)
    clear hg HX4 HF4 HG4
    repeat (refine chain_take rfl (by rfl) ?_ (fun W hG => ?_) ?_; rotate_left; (go_simp; rfl); simp only [Act.put, List.setIfInBounds_toArray, List.set_cons_zero, List.set_cons_succ])
    refine chain_only rfl (by rfl) (fun K hK => ?_)
    go_simp
    refine (HGe.out _ _ (HR.out.belowAt HG5.out (Nat.le_refl _))).mono ?_
    rintro e w6 ⟨rfl, m2, rfl⟩
    refine hK _ _ (Grow.of_drewN _ _) ?_
    clear hK K
    have HX6 : Hid (Blk (w5.drewN m2) gx 80 #[.int .u64 (b : Int), .int .u64 (f : Int), .int .u64 (wd : Int), .int .u64 (sh : Int), .int .u64 (z : Int)]) := HX5
    have HF6 : Hid (Blk (w5.drewN m2) gf 23 #[.bool wide, .bool big]) := HF5
    have HG6 : Hid (Grow w (w5.drewN m2)) := hid (below_drewN HG5.out m2)
    generalize w5.drewN m2 = w6 at HX6 HF6 HG6 ⊢
    clear HX5 HF5 HG5 e1 e2 e3 e4
    repeat (refine chain_take rfl (by rfl) ?_ (fun W hG => ?_) ?_; rotate_left; (go_simp; rfl); simp only [Act.put, List.setIfInBounds_toArray, List.set_cons_zero, List.set_cons_succ])
    refine chain_done ?_
    obtain ⟨ba, oa, rfl, hba, hcell⟩ := (HA.out.belowAt HG6.out (Nat.le_refl _)).pos (by omega)
    have q9 := hcell q (by have := HA.out.len; omega)
    clear hcell hba
    obtain ⟨N, hN⟩ : ∃ N, N = bstr (all.getD q []) := ⟨_, rfl⟩
    rw [← hN] at q9
    have HN := hid hN
    clear hN
    rcases HHX.out with ⟨a1, a2, a3⟩ | ⟨a2, a1, a3⟩ | ⟨a2, a1, a3, a4⟩
    ·have hs2 := bstr_eq HN.out HSS.out a2
     have h2 : (((v / 2 * 2 + 1 : Nat) : Int) == ((h / 2 * 2 + 1 : Nat) : Int)) = true := by rw [a1]; simp
     have HP := hid a3
     generalize v / 2 * 2 + 1 = v1 at e5 h2
     generalize h / 2 * 2 + 1 = h1 at e6 h2
     clear a1 a2 a3 HHX
     go_wp2
     go_ret2
     exact ⟨q, by rw [decide_eq_true HQ2.out.2.2]; rfl, HP.out, HG6.out⟩
    ·have hs2 := bstr_ne HN.out HSS.out a2
     rw [a1] at e8
     have HP := hid a3
     generalize v / 2 * 2 + 1 = v1 at e5
     generalize h / 2 * 2 + 1 = h1 at e6
     clear a1 a2 a3 HHX
     by_cases hv1 : v1 = h1
     ·have h2 : ((v1 : Int) == (h1 : Int)) = true := by rw [hv1]; simp
      clear hv1
      go_wp2
      go_ret2
      exact ⟨0, rfl, HP.out, HG6.out⟩
     ·have h2 : ((v1 : Int) == (h1 : Int)) = false := by simp; omega
      clear hv1
      go_wp2
      go_ret2
      exact ⟨0, rfl, HP.out, HG6.out⟩
    ·have hs2 := bstr_ne HN.out HSS.out a2
     rw [a1] at e8
     have HP3 := hid a3
     have HP4 := hid a4
     generalize v / 2 * 2 + 1 = v1 at e5
     generalize h / 2 * 2 + 1 = h1 at e6
     clear a1 a2 a3 a4 HHX
     by_cases hv1 : v1 = h1
     ·have h2 : ((v1 : Int) == (h1 : Int)) = true := by rw [hv1]; simp
      clear hv1
      go_wp2
      go_roundw
      case rel => exact ⟨i + 1, q + 1, by go_num, hid HQ2.out.1.symm, HP3, HP4, HX6.out, HF6.out, HG6.out⟩
      case measure => have := HQ2.out.2.1; simp [intOf]; omega
     ·have h2 : ((v1 : Int) == (h1 : Int)) = false := by simp; omega
      clear hv1
      go_wp2
      go_roundw
      case rel => exact ⟨i + 1, q + 1, by go_num, hid HQ2.out.1.symm, HP3, HP4, HX6.out, HF6.out, HG6.out⟩
      case measure => have := HQ2.out.2.1; simp [intOf]; omega
theorem lookup_any (t : Gn) (ht : t.Ok) (A : Option Addr) (n c : Nat) (A' : Option Addr) (n' c' : Nat) (all : List Bs) (S : ByteArray) (s : Bs) (w : World) (hr : RB w w.heap.size A n c t.B) (ha : SS w w.heap.size A' n' c' all)
  (hlen : all.length = t.first + t.n) (hall : ∀ i, i < t.n → all.getD (t.first + i) [] = t.L.getD i []) (hS : S = bstr s) (hs : S.size ≤ maxLen) :
  Calls Tryz.prog 15 #[.slice A n c, .slice A' n' c', .agg #[.bool t.wide, .bool t.big], .string S] w fun e w' => ∃ v : Nat, e = .returned (.tuple #[.int .i64 (v : Int), .bool (decide (0 < v))]) ∧ t.Fst s v ∧ Grow w w' := by
 have hz := t.z_pos
 have hk : gnH s % t.buckets < t.buckets := Nat.mod_lt _ (by have := ht.b1; omega)
 have hrd : ∀ W, RB W W.heap.size A n c t.B → Calls Tryz.prog 51 #[.slice A n c, .agg #[.bool t.wide, .bool t.big]] W fun e w' => e = .returned (.tuple #[.agg (shC t.buckets t.first t.words t.shift t.z), .bool true]) ∧ Grow W w' := fun W hW =>
  read_any A n c t.B t.buckets t.first t.words t.shift t.z t.wide t.big t.hd W hW rfl ht.b1 ht.w1 (t.hd_lt ht) (fun _ _ => rfl) (t.read0 ht)
 have hpl : t.pl (gnH s % t.buckets) = 0 ∨ t.first ≤ t.pl (gnH s % t.buckets) := by
  rcases t.bucket_is ht s with ⟨h, _⟩ | ⟨i, _, h, _⟩
  ·exact .inl h
  ·exact .inr (by omega)
 have hfr : ∀ W, RB W W.heap.size A n c t.B → Calls Tryz.prog 53 #[.agg (shC t.buckets t.first t.words t.shift t.z), .slice A n c, .int .u32 (gnH s : Int), .agg #[.bool t.wide, .bool t.big]] W (FromR (t.wd (t.at_ (gnH s))) (t.bt (gnH s)) (t.pl (gnH s % t.buckets)) W) := fun W hW =>
  from_core A n c t.B t.buckets t.first t.words t.shift t.z (gnH s) (t.at_ (gnH s)) (t.bt (gnH s)) (t.wd (t.at_ (gnH s))) (t.pl (gnH s % t.buckets)) t.wide t.big W hW hz ht.b1 ht.b2 ht.w1 ht.w2 ht.s2 (gnH_lt s) rfl rfl
   (Nat.lt_of_lt_of_le (t.bt_lt _) (Nat.pow_le_pow_right (by decide) (by omega))) (t.wd_64 _) hpl (t.read1 _ (t.at_lt ht _)) (t.read2 ht _ hk)
 refine lookup_core A n c t.B A' n' c' all S s t.buckets t.first t.words t.shift t.z t.n (gnH s) (t.wd (t.at_ (gnH s))) (t.bt (gnH s)) (t.pl (gnH s % t.buckets)) t.wide t.big t.ch (t.Fst s) (fun i => t.k i = gnH s % t.buckets ∧ ∀ x, x < i → t.L.getD x [] ≠ s) w
  hr ha (ha.len.trans hlen) ht.f1 ht.f2 ht.n2 ht.b2 ht.w2 (by omega) hS hs rfl hrd hfr (fun i hi => t.read3 i hi) t.ch_lt (fun h => .inl ⟨rfl, t.no_bits h⟩) ?_ ?_ ?_
 ·intro h0
  rcases t.bucket_is ht s with ⟨_, h⟩ | ⟨i, _, h, _⟩
  ·exact .inl ⟨rfl, h⟩
  ·have := ht.f1; omega
 ·intro h0
  rcases t.bucket_is ht s with ⟨h, _⟩ | ⟨i, hi, h, h1, h2⟩
  ·exact absurd h h0
  ·exact ⟨i, hi, h, h1, h2⟩
 ·intro i hi ⟨hk1, hno⟩
  rw [hall i hi]
  obtain ⟨c1, c2⟩ := t.ch_half i
  by_cases he : t.L.getD i [] = s
  ·refine .inl ⟨?_, he, .inr ⟨i, hi, rfl, he, hno⟩⟩
   rw [c1, Gn.h, he]
  ·have hno2 : ∀ x, x ≤ i → t.L.getD x [] ≠ s := fun x hx => by
    by_cases e : x = i
    ·rw [e]; exact he
    ·exact hno x (by omega)
   cases hl : t.last i with
   | true => exact .inr (.inl ⟨he, by rw [c2, hl]; rfl, .inl ⟨rfl, t.past_last ht hi hk1 hl hno2⟩⟩)
   | false =>
    obtain ⟨n1, n2⟩ := t.not_last hi hl
    exact .inr (.inr ⟨he, by rw [c2, hl]; rfl, n1, n2.trans hk1, fun x hx => hno2 x (by omega)⟩)
set_option maxRecDepth 100000
theorem SS.lit (w : World) (t : TypeId) (L : List Bs) (h : L.length ≤ maxLen) (h2 : ∀ s ∈ L, s.length ≤ maxLen) (cs : Array Value) (hcs : cs = (L.map fun s => Value.string (bstr s)).toArray) :
  SS (w.alloc (.cells cs t)) (w.alloc (.cells cs t)).heap.size (some ⟨w.heap.size, 0, none⟩) L.length L.length L := by
 subst hcs
 refine ⟨rfl, Nat.le_refl _, h, h2, fun _ => ⟨w.heap.size, 0, rfl, by simp, fun j hj => ?_⟩⟩
 rw [Nat.zero_add, World.cell?_alloc_mark]
 simp [hj]
set_option maxRecDepth 100000
def Ordered (L : List Bs) (b : Nat) (w : World) (e : Ending) (w' : World) : Prop :=
 ∃ g f, e = .returned (.slice (some ⟨g, 0, none⟩) L.length L.length) ∧ w.heap.size ≤ g ∧ RowB w' g L.length f ∧ (∀ i, i < L.length → f i < L.length) ∧ Rise (fun i => gnH (L.getD i []) % b) 0 L.length f ∧ Grow w w'
set_option maxHeartbeats 1000000 in
theorem order_any (A : Option Addr) (n c b : Nat) (L : List Bs) (w : World) (h : SS w w.heap.size A n c L) (hn : n ≤ 1000) (hb : 1 ≤ b) (hb2 : b ≤ 1024) :
  Calls Tryz.prog 6 #[.slice A n c, .int .i64 (b : Int)] w (Ordered L b w) := by
 have HSS := hid h
 have HLen := hid h.len
 have hmk : ∀ W : World, (Instr.makeSlice 27 (.int .i64 (n : Int)) (.int .i64 (n : Int))).run Tryz.prog W = .ok (.slice (some ⟨W.heap.size, 0, none⟩) n n) (W.alloc (.cells (madeCells #[.int .i64 0] n) 3)) :=
  fun W => run_make_row' 27 3 (.int .i64 0) 8 Tryz.underlying27 (by kernel_rfl) rfl _ _ n (by omega) (by omega) W
 have HB := hid hb
 have z1 : (1 : Int) ≤ (b : Int) := by omega
 have z2 : IntKind.u64.wrap (b : Int) = (b : Int) := by rw [IntKind.wrap_u64]; omega
 clear h hb
 go_enter Tryz.func6, Tryz.ntmps6
 go_wp2_with fail
 refine (hashesOf_any A n c L _ HSS.out hn).mono ?_
 rintro e w1 ⟨gh, rfl, hgh, hrow1, hgr1⟩
 have HR1 := hid hrow1
 have HG1 := hid hgr1
 have HH := hid hgh
 clear hrow1 hgr1 hgh
 obtain ⟨H, hH⟩ : ∃ H : Nat → Nat, H = fun i => gnH (L.getD i []) := ⟨_, rfl⟩
 rw [← hH] at HR1
 have HHe := hid hH
 have HH32 : Hid (∀ i, i < n → H i < 4294967296) := hid fun i _ => by rw [hH]; exact gnH_lt _
 have HK : Hid (Calls Tryz.prog 19 #[.agg #[.int .u64 (b : Int), .int .u64 0, .int .u64 0, .int .u64 0, .int .u64 0], .slice (some ⟨gh, 0, none⟩) n n] w1 fun e w' => ∃ g, e = .returned (.slice (some ⟨g, 0, none⟩) n n) ∧ w1.heap.size ≤ g ∧ w'.rowIs g 37 n (ivlB .u64 fun i => H i % b) ∧ Grow w1 w') :=
  hid (bucketsOf_any b 0 0 0 0 gh n n H w1 HB.out HH32.out HR1.out hn (Nat.le_refl _) (by unfold maxLen; omega))
 clear hH
 go_wp2_with fail
 refine HK.out.mono ?_
 rintro e w2 ⟨gi, rfl, hgi, hrow2, hgr2⟩
 have HR2 := hid hrow2
 have HG2 := hid hgr2
 clear hrow2 hgr2 hgi HK HR1
 go_wp2
 generalize hW : World.alloc _ _ = W0
 obtain ⟨gb, hgb⟩ : ∃ gb, gb = w2.heap.size := ⟨_, rfl⟩
 obtain ⟨g, hg⟩ : ∃ g, g = w2.heap.size + 1 := ⟨_, rfl⟩
 have HRow : Hid (W0.rowIs g 3 n (ivlB .i64 (upToB (fun x => x) 0))) := hid (by
  have := rows_newB (w2.alloc (.cells #[.slice (some ⟨gi, 0, none⟩) n n] 30)) 3 .i64 n (fun x => x)
  rw [hW] at this
  simpa [hg] using this)
 have HBx : Hid (Blk W0 gb 30 #[.slice (some ⟨gi, 0, none⟩) n n]) := hid (by rw [← hW, hgb]; exact (Blk.new _ _ _).alloc _)
 have HGr : Hid (Grow w2 W0) := hid (by rw [← hW]; exact (Grow.of_alloc _ _).trans (Grow.of_alloc _ _))
 have HSz : Hid (w2.heap.size + 1 < W0.heap.size) := hid (by rw [← hW]; simp)
 have HGb := hid hgb
 have HGg := hid hg
 rw [← hg, ← hgb]
 clear hmk hW hg hgb
 go_loopw [21] (fun i wr => ∃ k : Nat, k ≤ n ∧ i = .int .i64 k ∧ wr.rowIs g 3 n (ivlB .i64 (upToB (fun x => x) k)) ∧ W0.grownBy wr (some g)) (fun i _ => n - (intOf i).toNat)
 case atStart => exact ⟨0, Nat.zero_le _, rfl, HRow.out, grown_reflB _ _⟩
 case round =>
  obtain ⟨k, hk, rfl, hrow, hgr⟩ := hrel
  have HR := hid hrow
  have HG := hid hgr
  clear HRow hgr
  by_cases hlt : k < n
  ·have hcl := hrow.cell hlt
   have hfz := hrow.frozen k
   have HX := hid ((hrow.set k (.int .i64 (k : Int))).congr fun j _ => upTo_setB .i64 (fun x => x) k j)
   clear hrow
   go_wp2
   go_roundw
   case rel => exact ⟨k + 1, by omega, by go_num, HX.out, grown_transB HG.out (grown_setB _ _ _)⟩
   case measure => simp [intOf]; omega
  ·have e : k = n := by omega
   subst e
   have HRow : Hid (RowB wr g k (fun x => x)) := hid (upTo_allB HR.out)
   clear hrow HR
   have h1 : gb ≠ g := by rw [HGb.out, HGg.out]; omega
   have h2 : gi ≠ g := by have := HR2.out.lt; rw [HGg.out]; omega
   have hbw : wr.cell? ⟨gb, 0, none⟩ = some (.slice (some ⟨gi, 0, none⟩) k k) := by
    have : Blk wr gb 30 #[.slice (some ⟨gi, 0, none⟩) k k] := by rw [Blk, HG.out.block gb HBx.out.lt (by simp; exact h1)]; exact HBx.out
    exact this.at 0
   have hrw : wr.rowIs gi 37 k (ivlB .u64 fun i => H i % b) := by
    have := rows_grow HR2.out HGr.out
    exact this.of_block (HG.out.block gi this.lt (by simp; exact h2))
   have hbl : gb < wr.heap.size := Nat.lt_of_lt_of_le HBx.out.lt HG.out.size
   have HC := hid (CmpAt.of (g := g) hbw hrw h1 h2 hbl)
   have HS := hid (sortStable_any g k k gb k (fun i => H i % b) (fun x => x) wr HRow.out HC.out (fun x hx => hx) (Nat.le_refl _) (by unfold maxLen; omega) (by omega))
   unfold cmpF at HS
   clear hbw hrw hbl h1 h2
   go_wp2_with (go_at_call 21; refine HS.out.mono ?_; rintro e w' ⟨rfl, F, hrow, hmix, hrise, hgr⟩)
   go_ret
   have eL := HLen.out
   have hgw : w.heap.size ≤ g := by
    have := HG1.out.size
    have := HG2.out.size
    rw [HGg.out]; omega
   refine ⟨g, F, by rw [← eL]; rfl, hgw, by rw [← eL]; exact hrow, ?_, ?_, ?_⟩
   ·rw [← eL]; exact hmix.lt (Nat.le_refl _) (fun x hx => hx)
   ·rw [← eL]
    have := hrise
    rw [HHe.out] at this
    exact this
   ·refine ((HG1.out.trans HG2.out).trans HGr.out).trans' ?_
    have s0 : w.heap.size ≤ W0.heap.size := Nat.le_trans HG1.out.size (Nat.le_trans HG2.out.size HGr.out.size)
    exact below_of (grown_transB HG.out hgr) s0 (fun q hq => by injection hq with hq; omega)
def cutA (a : Addr) (c p : Nat) : Addr := if c = p then a else a.add p
theorem cutA_zero (a : Addr) (c : Nat) : cutA a c 0 = a := by unfold cutA Addr.add; split <;> simp
section
variable {w : World} {B n c : Nat} {a : Addr} {l : List UInt8}
theorem RB.cut (h : RB w B (some a) n c l) {p m : Nat} (hp : p + m ≤ n) : RB w B (some (cutA a c p)) m (c - p) ((l.drop p).take m) := by
 have hl := h.len
 have hcap := h.cap
 have hmax := h.max
 by_cases h0 : 0 < m
 ·obtain ⟨b, off, e, -, -⟩ := h.pos (by omega)
  injection e with e
  subst e
  have := h.sub hp h0
  have e2 : cutA ⟨b, off, none⟩ c p = ⟨b, off + p, none⟩ := by
   unfold cutA Addr.add
   rw [if_neg (by omega)]
   split <;> simp_all
  rw [e2]
  exact this
 ·have : m = 0 := by omega
  subst this
  exact ⟨by simp, by omega, by omega, fun h => absurd h (by omega)⟩
end
theorem run_cut_lh {P : Program} (t : TypeId) (ht : P.underlying t = some (.slice (P.elem t))) (hz : ∀ W, (sizeOf (P.elem t)).run P W = .ok 1 W) (a : Addr) (n c : Nat) (kl kh : IntKind) (p q : Nat) (hpq : p ≤ q) (hq : q ≤ c) (W : World) :
  (Instr.slice t (.slice (some a) n c) (some (.int kl (p : Int))) (some (.int kh (q : Int))) none).run P W = .ok (.slice (some (cutA a c p)) (q - p) (c - p)) W := by
 rw [run_slice_lh W t (some a) n c ht kl kh p q (by omega) (by omega) (by omega), hz]
 simp only [Result.andThen, sliced, Int.toNat_natCast, Nat.mul_one, Option.map_some]
 unfold cutA
 split <;> rfl
theorem run_cut_h {P : Program} (t : TypeId) (ht : P.underlying t = some (.slice (P.elem t))) (hz : ∀ W, (sizeOf (P.elem t)).run P W = .ok 1 W) (a : Addr) (n c : Nat) (kh : IntKind) (q : Nat) (hq : q ≤ c) (W : World) :
  (Instr.slice t (.slice (some a) n c) none (some (.int kh (q : Int))) none).run P W = .ok (.slice (some a) q c) W := by
 rw [run_slice_h W t (some a) n c ht kh q (by omega) (by omega), hz]
 simp only [Result.andThen, sliced, Int.toNat_natCast, Nat.zero_mul, Option.map_some, Nat.sub_zero]
 have : a.add 0 = a := by unfold Addr.add; simp
 rw [this]
 split <;> rfl
theorem run_cut_l {P : Program} (t : TypeId) (ht : P.underlying t = some (.slice (P.elem t))) (hz : ∀ W, (sizeOf (P.elem t)).run P W = .ok 1 W) (a : Addr) (n c : Nat) (kl : IntKind) (p : Nat) (hp : p ≤ n) (W : World) :
  (Instr.slice t (.slice (some a) n c) (some (.int kl (p : Int))) none none).run P W = .ok (.slice (some (cutA a c p)) (n - p) (c - p)) W := by
 rw [run_slice_l W t (some a) n c ht kl p (by omega) (by omega), hz]
 simp only [Result.andThen, sliced, Int.toNat_natCast, Nat.mul_one, Option.map_some]
 unfold cutA
 split <;> rfl
def nam (s : Bs) : Value := .string (bstr s)
def SO (w : World) (base : Nat) (e : TypeId) (A : Option Addr) (n c : Nat) (L : List Bs) : Prop := w.ownsRow base e 1 (.slice A n c) n (L.map nam)
section
variable {w w' : World} {base : Nat} {e : TypeId} {A : Option Addr} {n c : Nat} {L : List Bs}
theorem SO.len (h : SO w base e A n c L) : n = L.length := by have := h.1; simp at this; omega
theorem SO.keep (h : SO w base e A n c L) (hb : Below w.heap.size w w') : SO w' base e A n c L := by
 refine ⟨h.1, ?_⟩
 rcases h.2 with h0 | ⟨g, cap, cur, hv, hg, hh, r⟩
 ·exact .inl h0
 ·refine .inr ⟨g, cap, cur, hv, hg, ?_, r⟩
  rw [hb.block g ?_]
  ·exact hh
  ·rcases Nat.lt_or_ge g w.heap.size with h1 | h1
   ·exact h1
   ·rw [Array.getElem?_eq_none h1] at hh; cases hh
theorem SO.ss (h : SO w base e A n c L) (he : ∀ s ∈ L, s.length ≤ maxLen) : SS w w.heap.size A n c L := by
 have hl := h.len
 rcases h.2 with ⟨e0, h0⟩ | ⟨g, cap, cur, hv, _, hh, hnc, hcm, hsz, htk⟩
 ·injection e0 with e1 e2 e3
  subst e1; subst e3
  exact ⟨hl, by omega, Nat.zero_le _, he, fun hp => by omega⟩
 ·injection hv with hA _ hc
  subst hA; subst hc
  refine ⟨hl, hnc, hcm, he, fun _ => ⟨g, 0, rfl, ?_, fun j hj => ?_⟩⟩
  ·rcases Nat.lt_or_ge g w.heap.size with h1 | h1
   ·exact h1
   ·rw [Array.getElem?_eq_none h1] at hh; cases hh
  ·rw [cell_of_row w g (0 + j) cur e (0, 0) hh, Nat.zero_add]
   have e1 : (cur.toList.take (n * 1))[j]? = some (nam (L.getD j [])) := by
    rw [htk]; simp [hj]
   rw [List.getElem?_take_of_lt (by omega)] at e1
   simpa [nam] using e1
theorem SS.drop {B p : Nat} {a : Addr} (h : SS w B (some a) n c L) (hp : p ≤ n) : SS w B (some (cutA a c p)) (n - p) (c - p) (L.drop p) := by
 have hl := h.len
 have hcap := h.cap
 have hmax := h.max
 refine ⟨by simp; omega, by omega, by omega, fun s hs => h.each s (List.mem_of_mem_drop hs), fun h0 => ?_⟩
 obtain ⟨b, off, e, hb, hc⟩ := h.pos (by omega)
 injection e with e
 subst e
 refine ⟨b, off + p, ?_, hb, fun j hj => ?_⟩
 ·congr 1
  unfold cutA Addr.add
  rw [if_neg (by omega)]
  split <;> simp_all
 ·have hj2 : p + j < L.length := by simp at hj; omega
  rw [Nat.add_assoc, hc (p + j) hj2]
  simp
end
theorem wpList_appendN {P : Program} (w : World) {ops : Array Oper} {rest : List Oper} {o : Oper} {a : Act} {Q : Exit → Act → World → Prop} (hgd : o.guard = none) (s x : Operand) (t : TypeId)
  (ho : o.op = .call { callee := .builtin .append, args := #[s, x], argTypes := #[t, t] })
  (base : Nat) (e : TypeId) (z : Value) (bytes : Nat) (ht : P.underlying t = some (.slice e)) (hinfo : (P.info? e).map (fun i => (i.zero, i.size, i.bytes)) = some (some z, 1, bytes)) (hzs : z.cells.size = 1)
  (A : Option Addr) (n c : Nat) (L : List Bs) (hs : a.eval s = .slice A n c) (hown : SO w base e A n c L)
  (B : Nat) (A' : Option Addr) (m c' : Nat) (L' : List Bs) (hx : a.eval x = .slice A' m c') (hr : SS w B A' m c' L') (hm : 0 < m)
  (h63 : n + m ≤ maxLen) (hsz : (n + m) * bytes ≤ 140737488355328) (hbase : base ≤ w.heap.size)
  (h : ∀ A2 c2 w', SO w' base e A2 (n + m) c2 (L ++ L') → Below base w w' → wpList P ops Q rest (a.put o.dst (.slice A2 (n + m) c2)) w') : wpList P ops Q (o :: rest) a w := by
 refine wpList_plain hgd fun K hK => ?_
 obtain ⟨i, hi, hz, hs1, hby⟩ := info_parts hinfo
 obtain ⟨b, off, rfl, _, hcell⟩ := hr.pos hm
 have hl := hr.len
 obtain ⟨v', w', hrun, h2, h3, _, _⟩ := run_append_own_at (P := P) w base t o.type e i z 1 bytes ht hi hz hs1 hby hzs (by omega) _ n _ hown ⟨b, off, none⟩ m c' (L'.map nam)
  (by simp [hl]) (fun j u hj => by
   have hjl : j < L'.length := by have := (List.getElem?_eq_some_iff.1 hj).1; simpa using this
   have e2 : (⟨b, off, none⟩ : Addr).add j = ⟨b, off + j, none⟩ := by unfold Addr.add; split <;> simp_all
   rw [e2, hcell j hjl, ← hj]
   simp [hjl, nam]) (by intro u hu; obtain ⟨q, _, rfl⟩ := List.mem_map.1 hu; rfl) h63 hsz hbase
 have hv : ∃ A2 c2, v' = .slice A2 (n + m) c2 := by
  rcases h2.2 with ⟨h0, h1⟩ | ⟨g, cap, cur, h0, _⟩
  ·exact ⟨none, 0, by rw [h0, h1]⟩
  ·exact ⟨_, _, h0⟩
 obtain ⟨A2, c2, rfl⟩ := hv
 unfold Oper.wp execOp
 simp only [ho, resolve, invoke, builtin, Sem.run_bind, Sem.run_pure, Result.andThen_ok, List.map_toArray, List.map_cons, List.map_nil, hs, hx, hrun]
 exact hK _ _ (h A2 c2 w' (by simpa [SO] using h2) ((Below.refl base w).grown h3 hbase fun k hk => (World.ownsRow.lt hown k hk).1))
set_option maxRecDepth 100000
def pickL (L : List Bs) (f : Nat → Nat) (n : Nat) : List Bs := (List.range n).map fun i => L.getD (f i) []
theorem pickL_len (L : List Bs) (f : Nat → Nat) (n : Nat) : (pickL L f n).length = n := by simp [pickL]
theorem pickL_at (L : List Bs) (f : Nat → Nat) (n i : Nat) (h : i < n) : (pickL L f n).getD i [] = L.getD (f i) [] := by simp [pickL, h]
theorem pickL_succ (L : List Bs) (f : Nat → Nat) (n : Nat) : pickL L f (n + 1) = pickL L f n ++ [L.getD (f n) []] := by simp [pickL, List.range_succ]
theorem pickL_each {L : List Bs} {f : Nat → Nat} {n m : Nat} (hf : ∀ i, i < n → f i < L.length) (h : ∀ s ∈ L, s.length ≤ m) : ∀ s ∈ pickL L f n, s.length ≤ m := fun s hs => by
 obtain ⟨i, hi, rfl⟩ := List.mem_map.1 hs
 exact h _ (getD_mem (hf i (by simpa using hi)))
def lawG (F b wd sh : Nat) (wide big : Bool) (L : List Bs) (f : Nat → Nat) : Gn := ⟨F, b, wd, sh, wide, big, pickL L f L.length⟩
theorem lawG_ok {F b wd sh : Nat} {wide big : Bool} {L : List Bs} {f : Nat → Nat} (h1 : 1 ≤ F) (h2 : F ≤ 60) (b1 : 1 ≤ b) (b2 : b ≤ 50) (w1 : 1 ≤ wd) (w2 : wd ≤ 10) (s2 : sh < 32) (hn : L.length ≤ 60)
  (he : ∀ s ∈ L, s.length ≤ 200) (hf : ∀ i, i < L.length → f i < L.length) (hr : Rise (fun i => gnH (L.getD i []) % b) 0 L.length f) : (lawG F b wd sh wide big L f).Ok := by
 have e : (lawG F b wd sh wide big L f).n = L.length := pickL_len L f L.length
 refine ⟨h1, show F ≤ 65536 by omega, b1, show b ≤ 1024 by omega, w1, show wd ≤ 1024 by omega, show sh ≤ 31 by omega, by rw [e]; omega, fun i j hij hj => ?_, fun s hs => ?_⟩
 ·rw [e] at hj
  have := hr i j (Nat.zero_le _) hij hj
  simp only [Gn.k, Gn.h, lawG]
  rw [pickL_at L f _ i (by omega), pickL_at L f _ j hj]
  exact this
 ·have := pickL_each hf he s hs
  omega
end Go.Proofs.YtfbimboemahhhaaGreatDoor
