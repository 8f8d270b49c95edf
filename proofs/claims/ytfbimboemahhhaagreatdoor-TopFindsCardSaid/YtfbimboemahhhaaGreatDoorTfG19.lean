/-
  Several texts in one: The contracts of gnu; The contract of gnu.
-/
import Derived.Test.YtfbimboemahhhaaGreatDoorTfG18
import Derived.Test.YtfbimboemahhhaaGreatDoorTfG12
import Derived.Test.YtfbimboemahhhaaGreatDoorTfG15
import Derived.Test.YtfbimboemahhhaaGreatDoorTfG17
import Derived.Test.YtfbimboemahhhaaGreatDoorTfG2
namespace Go.Proofs.YtfbimboemahhhaaGreatDoor
open Go.Lib (hid)
open Go.RowKit
def lastK (K : Nat → Nat) (n i : Nat) : Bool := decide (i + 1 = n) || decide (K i ≠ K (i + 1))
def chK (H K : Nat → Nat) (n i : Nat) : Nat := H i / 2 * 2 + (if lastK K n i then 1 else 0)
theorem clear_bit (h : Nat) (h32 : h < 4294967296) : bits .andNot .u64 (h : Int) 1 = ((h / 2 * 2 : Nat) : Int) := by
 have e1 := u64_andNot_nat h 1 (by omega) (by omega)
 have e2 : h &&& (18446744073709551615 - 1) = h / 2 * 2 := by
  have := nat_hi64_1 h
  rw [show (18446744073709551615 - 1 : Nat) = 18446744073709551614 by decide, this]
  omega
 rw [e2] at e1
 exact e1
theorem set_bit (x : Nat) (hx : x < 4294967296) : bits .or .u64 ((x / 2 * 2 : Nat) : Int) 1 = ((x / 2 * 2 + 1 : Nat) : Int) := by
 have e1 := u64_or_nat (x / 2 * 2) 1 (by omega) (by omega)
 rw [or_one, show x / 2 * 2 / 2 * 2 + 1 = x / 2 * 2 + 1 by omega] at e1
 exact e1
set_option maxHeartbeats 1000000 in
theorem chain_any (gh gi n c c' : Nat) (H K : Nat → Nat) (w : World) (hH : ∀ i, i < n → H i < 4294967296) (hr : w.rowIs gh 36 n (ivlB .u32 H)) (hr' : w.rowIs gi 37 n (ivlB .u64 K)) (hn : n ≤ 1000) (hnc : n ≤ c) (hc : c ≤ maxLen) :
  Calls Tryz.prog 31 #[.slice (some ⟨gh, 0, none⟩) n c, .slice (some ⟨gi, 0, none⟩) n c'] w fun e w' => ∃ g, e = .returned (.slice (some ⟨g, 0, none⟩) n n) ∧ w.heap.size ≤ g ∧ w'.rowIs g 37 n (ivlB .u64 (chK H K n)) ∧ Grow w w' := by
 unfold maxLen at hc
 have hmk : ∀ W : World, (Instr.makeSlice 30 (.int .i64 (n : Int)) (.int .i64 (n : Int))).run Tryz.prog W = .ok (.slice (some ⟨W.heap.size, 0, none⟩) n n) (W.alloc (.cells (madeCells #[.int .u64 0] n) 37)) :=
  fun W => run_make_row' 30 37 (.int .u64 0) 8 Tryz.underlying30 (by kernel_rfl) rfl _ _ n (by omega) (by omega) W
 obtain ⟨F, hF⟩ : ∃ F : Nat → Nat, F = chK H K n := ⟨_, rfl⟩
 have H0 := hid (rows_newB w 37 .u64 n F)
 have HF := hid hF
 have HH := hid hH
 have HRH := hid hr
 have HRI := hid hr'
 have l1 := hr.lt
 have l2 := hr'.lt
 clear hF hH hr hr'
 go_enter Tryz.func31, Tryz.ntmps31
 go_wp2
 obtain ⟨g, hg⟩ : ∃ g, g = w.heap.size := ⟨_, rfl⟩
 rw [← hg] at H0 l1 l2
 have HG := hid hg
 rw [← hg]
 clear hmk
 go_loopw [13] (fun i wr => ∃ k : Nat, k ≤ n ∧ i = .int .i64 k ∧ wr.rowIs g 37 n (ivlB .u64 (upToB F k)) ∧ Below g w wr) (fun i _ => n - (intOf i).toNat)
 case atStart => exact ⟨0, Nat.zero_le _, rfl, H0.out, (Below.refl _ _).alloc (by omega) _⟩
 case round =>
  obtain ⟨k, hk, rfl, hrow, hbel⟩ := hrel
  have HR := hid hrow
  have HB := hid hbel
  clear hbel hg H0
  by_cases hlt : k < n
  ·have q : wr.cell? ⟨gh, k, none⟩ = some (.int .u32 (H k : Int)) := (rows_below HRH.out HB.out l1).cell hlt
   have hfz := hrow.frozen k
   have hcl := hrow.cell hlt
   have h32 := HH.out k hlt
   have e0 : IntKind.u64.wrap (H k : Int) = (H k : Int) := by rw [IntKind.wrap_u64]; omega
   have e1 := clear_bit (H k) h32
   have e2 := set_bit (H k) h32
   have HX := hid (HR.out.set k (.int .u64 ((H k / 2 * 2 : Nat) : Int)))
   have HX1 := hid (HX.out.set k (.int .u64 ((H k / 2 * 2 + 1 : Nat) : Int)))
   have HB1 := hid (HB.out.setCell (p := ⟨g, k, none⟩) (Nat.le_refl g) (.int .u64 ((H k / 2 * 2 : Nat) : Int)))
   have HB2 := hid (HB1.out.setCell (p := ⟨g, k, none⟩) (Nat.le_refl g) (.int .u64 ((H k / 2 * 2 + 1 : Nat) : Int)))
   have HFy : Hid (lastK K n k = true → F k = H k / 2 * 2 + 1) := hid fun h => by rw [HF.out, chK, if_pos h]
   have HFn : Hid (lastK K n k = false → F k = H k / 2 * 2) := hid fun h => by rw [HF.out, chK, if_neg (by rw [h]; decide)]; rfl
   generalize H k / 2 * 2 + 1 = y1 at e2 HX1 HB2 HFy
   generalize H k / 2 * 2 = y at e1 e2 HX HX1 HB1 HB2 HFn
   generalize H k = x at q h32 e0 e1
   clear hrow
   go_wp2_with fail
   have s1 : IntKind.i64.wrap ((n : Int) - 1) = (n : Int) - 1 := by rw [IntKind.wrap_i64]; omega
   have hxc : (wr.setCell ⟨g, k, none⟩ (.int .u64 (y : Int))).cell? ⟨g, k, none⟩ = some (.int .u64 (y : Int)) := by simpa using HX.out.cell hlt
   have hxf := HX.out.frozen k
   generalize wr.setCell ⟨g, k, none⟩ (.int .u64 (y : Int)) = w1 at HX HX1 HB1 HB2 hxc hxf ⊢
   clear hcl hfz q e0 e1
   by_cases hlast : k + 1 = n
   ·have HLa : Hid (lastK K n k = true) := hid (by simp [lastK, hlast])
    have hz : ((k : Int) == (n : Int) - 1) = true := by simp; omega
    go_quiet (fail)
    clear hz
    have d1 : (w1.drewN nq).cell? ⟨g, k, none⟩ = some (.int .u64 (y : Int)) := hxc
    have d2 : (w1.drewN nq).frozen? ⟨g, k, none⟩ = false := hxf
    go_wp2
    go_roundw
    case rel =>
     refine ⟨k + 1, by omega, by go_num, ?_, (below_drewN HB1.out _).setCell (p := ⟨g, k, none⟩) (Nat.le_refl g) _⟩
     exact (HX1.out : ((w1.drewN nq).setCell ⟨g, k, none⟩ (.int .u64 (y1 : Int))).rowIs g 37 n _).congr fun j _ => by
      rw [← upTo_setB, HFy.out (HLa.out)]
      split <;> rfl
    case measure => simp [intOf]; omega
   ·have hz : ((k : Int) == (n : Int) - 1) = false := by simp; omega
    obtain ⟨i, hi⟩ : ∃ i, i = k + 1 := ⟨_, rfl⟩
    have q2 : w1.cell? ⟨gi, k, none⟩ = some (.int .u64 (K k : Int)) := (rows_below HRI.out HB1.out l2).cell hlt
    have q3 : w1.cell? ⟨gi, i, none⟩ = some (.int .u64 (K i : Int)) := (rows_below HRI.out HB1.out l2).cell (by omega)
    have p1 : ((k : Int) + 1).toNat = i := by omega
    have p2 : (0 : Int) ≤ (k : Int) + 1 := by omega
    have p3 : (k : Int) + 1 < (n : Int) := by omega
    have p4 : IntKind.i64.wrap ((k : Int) + 1) = (k : Int) + 1 := by rw [IntKind.wrap_i64]; omega
    by_cases hkk : K k = K i
    ·have HLa : Hid (lastK K n k = false) := hid (by simp only [lastK, Bool.or_eq_false_iff, decide_eq_false_iff_not]; exact ⟨hlast, by rw [← hi]; simpa using hkk⟩)
     rw [hkk] at q2
     generalize K i = u at q2 q3
     have hne : ((u : Int) != (u : Int)) = false := by simp
     clear hkk hi hlast
     go_quiet (fail)
     clear q2 q3 p1 p2 p3 p4 hz
     go_wp2
     go_roundw
     case rel =>
      refine ⟨k + 1, by omega, by go_num, ?_, below_drewN HB1.out _⟩
      exact (HX.out : (w1.drewN nq).rowIs g 37 n _).congr fun j _ => by
       rw [← upTo_setB, HFn.out (HLa.out)]
     case measure => simp [intOf]; omega
    ·have HLa : Hid (lastK K n k = true) := hid (by simp only [lastK, Bool.or_eq_true, decide_eq_true_eq]; exact .inr (by rw [← hi]; exact hkk))
     have hne : ((K k : Int) != (K i : Int)) = true := by simp; omega
     generalize K i = u at q3 hne
     generalize K k = v at q2 hne
     clear hkk hi hlast
     go_quiet (fail)
     clear q2 q3 p1 p2 p3 p4 hz
     have d1 : (w1.drewN nq).cell? ⟨g, k, none⟩ = some (.int .u64 (y : Int)) := hxc
     have d2 : (w1.drewN nq).frozen? ⟨g, k, none⟩ = false := hxf
     go_wp2
     go_roundw
     case rel =>
      refine ⟨k + 1, by omega, by go_num, ?_, (below_drewN HB1.out _).setCell (p := ⟨g, k, none⟩) (Nat.le_refl g) _⟩
      exact (HX1.out : ((w1.drewN nq).setCell ⟨g, k, none⟩ (.int .u64 (y1 : Int))).rowIs g 37 n _).congr fun j _ => by
       rw [← upTo_setB, HFy.out (HLa.out)]
       split <;> rfl
     case measure => simp [intOf]; omega
  ·have HX : Hid (wr.rowIs g 37 n (ivlB .u64 F)) := by
    have e : k = n := by omega
    rw [e] at hrow
    exact hid (upTo_allB hrow)
   clear hrow
   go_wp2
   go_ret
   refine ⟨g, rfl, by rw [HG.out]; exact Nat.le_refl _, by rw [← HF.out]; exact HX.out, ?_⟩
   have := HB.out
   rw [HG.out] at this
   exact this
/-! ### Numbers behind bytes -/
set_option maxHeartbeats 1000000 in
theorem lay_anyB (A : Option Addr) (n c : Nat) (l : List UInt8) (base g m cg z : Nat) (f : Nat → Nat) (wide big : Bool) (w : World) (ho : OB w base 5 A n c l) (hbase : base ≤ w.heap.size) (hz : wid z = true) (hr : w.rowIs g 37 m (ivlB .u64 f)) (hm : m ≤ 2000) (hmc : m ≤ cg) (hc : cg ≤ maxLen) (hl : l.length ≤ 1000000) :
  Calls Tryz.prog 28 #[.slice A n c, .slice (some ⟨g, 0, none⟩) m cg, .int .i64 (z : Int), .agg #[.bool wide, .bool big]] w fun e w' =>
   ∃ A2 n2 c2, e = .returned (.slice A2 n2 c2) ∧ OB w' base 5 A2 n2 c2 (l ++ layN z big f m) ∧ Below base w w' := by
 unfold maxLen at hc
 have hz8 : z ≤ 8 := by have := wid_cases hz; omega
 have HZ := hid hz
 have HO0 := hid (ho.alloc (.cells #[.bool wide, .bool big] 23))
 have HR0 := hid (rows_grow hr (Grow.of_alloc w (.cells #[.bool wide, .bool big] 23)))
 have HB0 := hid ((Below.refl base w).alloc hbase (.cells #[.bool wide, .bool big] 23))
 have HX0 := hid (Blk.new w 23 #[.bool wide, .bool big])
 have HS0 : Hid (base ≤ (w.alloc (.cells #[.bool wide, .bool big] 23)).heap.size) := hid (by simp; omega)
 have HL := hid hl
 have HN := hid ho.len
 clear hz ho hr hbase hl
 go_enter Tryz.func28, Tryz.ntmps28
 go_wp2
 obtain ⟨gx, hgx⟩ : ∃ gx, gx = w.heap.size := ⟨_, rfl⟩
 rw [← hgx] at HX0 ⊢
 clear hgx
 generalize hW : World.alloc _ _ = W0 at HO0 HR0 HB0 HX0 HS0 ⊢
 clear hW
 go_loopw [0, 13] (fun b i wr => ∃ (k : Nat) (A : Option Addr) (n c : Nat), k ≤ m ∧ i = .int .i64 k ∧ b = .slice A n c ∧ OB wr base 5 A n c (l ++ layN z big f k) ∧ wr.rowIs g 37 m (ivlB .u64 f) ∧ Blk wr gx 23 #[.bool wide, .bool big] ∧ Below base w wr ∧ base ≤ wr.heap.size) (fun _ i _ => m - (intOf i).toNat)
 case atStart => exact ⟨0, A, n, c, Nat.zero_le _, rfl, rfl, by rw [layN, List.append_nil]; exact HO0.out, HR0.out, HX0.out, HB0.out, HS0.out⟩
 case round =>
  obtain ⟨k, A, n, c, hk, rfl, rfl, ho, hrow, hbox, hbel, hsz⟩ := hrel
  have HO := hid ho
  have HR := hid hrow
  have HX := hid hbox
  have HB := hid hbel
  have HS := hid hsz
  clear HO0 HR0 HX0 HB0 HS0 ho hrow hbox hbel hsz
  by_cases hlt : k < m
  ·have q := HR.out.cell hlt
   unfold ivlB at q
   obtain ⟨x0, x1⟩ := HX.out.c2
   have HP := hid (put_wide (f k : Int) z big · HZ.out (by omega))
   have hnl : n ≤ 1000000 + 16000 := by
    have h1 := HO.out.len
    have h2 := HL.out
    have h3 : k * z ≤ 2000 * 8 := Nat.mul_le_mul (by omega) hz8
    rw [List.length_append, length_layN] at h1
    omega
   go_wp2_with fail
   refine (HP.out _).mono ?_
   rintro e w2 ⟨A', c', rfl, hob, hbel⟩
   rw [Int.toNat_natCast] at hob
   have HP2 := hid hob
   have HO2 := hid (HO.out.keep hbel)
   have HG2 := hid hbel
   have HS2 := hid (Nat.le_trans HS.out hbel.size)
   clear hob hbel q x0 x1
   go_wp2_with (refine wpList_appendG w2 rfl (.tmp 17) (.tmp 22) 29 rfl base 5 Tryz.underlying29 (by kernel_rfl) A n c _ rfl HO2.out w2.heap.size A' z c' _ rfl HP2.out.rb (by omega) HS2.out ?_)
   intro A2 c2 w3 ho3 hg3
   have HO3 := hid ho3
   have HR3 := hid ((rows_grow HR.out HG2.out).of_block (hg3.block g (rows_grow HR.out HG2.out).lt (fun e => (HO2.out.rowNe (rows_grow HR.out HG2.out) (by decide)) e)))
   have hbx2 := HX.out.grow HG2.out
   have hrx : w2.rowIs gx 23 2 (fun i => (#[Value.bool wide, Value.bool big] : Array Value)[i]?.getD undef) := ⟨_, hbx2, rfl, fun i hi => by
    match i, hi with
    | 0, _ => rfl
    | 1, _ => rfl⟩
   have HX3 : Hid (Blk w3 gx 23 #[.bool wide, .bool big]) := hid (by rw [Blk, hg3.block gx hbx2.lt (fun e => (HO2.out.rowNe hrx (by decide)) e)]; exact hbx2)
   have HB3 := hid ((HB.out.trans (HG2.out.mono HS.out)).trans (below_of hg3 HS2.out (fun q hq => HO2.out.ge hq)))
   have HS3 := hid (Nat.le_trans HS2.out hg3.size)
   clear ho3 hg3 hbx2 hrx
   go_wp2
   go_roundw
   case rel => exact ⟨k + 1, A2, _, c2, by omega, by go_num, rfl, by rw [layN]; exact HO3.out, HR3.out, HX3.out, HB3.out, HS3.out⟩
   case measure => simp [intOf]; omega
  ·have e : k = m := by omega
   subst e
   go_wp2
   go_ret
   exact ⟨A, n, c, rfl, HO.out, HB.out⟩
theorem Below.setRow' {B g : Nat} (W : World) (hg : B ≤ g) (cs : Array Value) : Below B W (W.setRow g cs) := ⟨rfl, rfl, rfl, by simp, fun k hk => setRow_other W g k cs (by omega)⟩
set_option maxHeartbeats 8000000 in
set_option maxRecDepth 100000 in
theorem build_core (f b wd sh z n c : Nat) (wide big : Bool) (L : List Bs) (H K At Bt hd : Nat → Nat) (A : Option Addr) (w : World) (h : SS w w.heap.size A n c L)
  (f1 : 1 ≤ f) (f2 : f ≤ 65536) (b1 : 1 ≤ b) (b2 : b ≤ 1024) (w1 : 1 ≤ wd) (w2 : wd ≤ 1024) (s2 : sh ≤ 31) (hn : n ≤ 1000) (hz : (if wide then 8 else 4) = z)
  (hH : (fun i => gnH (L.getD i [])) = H) (hK : (fun i => H i % b) = K) (hup : ∀ i, i + 1 < n → K i ≤ K (i + 1)) (hAt : ∀ i, i < n → H i / (8 * z) % wd = At i) (hBt : ∀ i, i < n → (2 ^ (H i % (8 * z)) ||| 2 ^ (H i / 2 ^ sh % (8 * z))) = Bt i)
  (hhd : ∀ i, i < 4 → [b, f, wd, sh].getD i 0 = hd i) :
  Calls Tryz.prog 8 #[.agg #[.int .i64 (f : Int), .int .i64 (b : Int), .int .i64 (wd : Int), .int .i64 (sh : Int)], .slice A n c, .agg #[.bool wide, .bool big]] w fun e w' =>
   ∃ A2 n2 c2, e = .returned (.tuple #[.slice A2 n2 c2, .nilIface]) ∧ RB w' w'.heap.size A2 n2 c2 (layN 4 big hd 4 ++ layN z big (wdTo At Bt n) wd ++ layN 4 big (plTo f K n) b ++ layN 4 big (chK H K n) n) ∧ Grow w w' := by
 have hz8 : z = 4 ∨ z = 8 := by rw [← hz]; cases wide <;> simp
 have HSS := hid h
 have HMB := hid (fun W => mayBe_yes f b wd sh W f1 f2 b1 b2 w1 w2 s2)
 have HWS := hid (fun W => wordSize_any wide big W)
 rw [hz] at HWS
 have HHO := hid (fun W hS => hashesOf_any A n c L W hS hn)
 rw [hH] at HHO
 have hH32 : ∀ i, i < n → H i < 4294967296 := fun i _ => by rw [← hH]; exact gnH_lt _
 have hKb : ∀ i, i < n → K i < b := fun i _ => by rw [← hK]; exact Nat.mod_lt _ (by omega)
 have hmax : n ≤ maxLen := by unfold maxLen; omega
 have HBO := hid (fun gh W hr => bucketsOf_any b f wd sh z gh n n H W b1 hH32 hr hn (Nat.le_refl _) hmax)
 rw [hK] at HBO
 have HIS := hid (fun g W hr => isSorted_yes g n n K W hr hn hup)
 have HFI := hid (fun gh W hr => filter_any b f wd sh z gh n n H At Bt W hz8 w1 w2 s2 hH32 hAt hBt hr hn (Nat.le_refl _))
 have HPL := hid (fun gi W hr => places_anyB b f wd sh z gi n n K W b2 f2 hKb hr hn (Nat.le_refl _) hmax)
 have HCH := hid (fun gh gi W hr hr' => chain_any gh gi n n n H K W hH32 hr hr' hn (Nat.le_refl _) hmax)
 unfold shC at HBO HFI HPL
 have HZ := hid hz8
 have HW2 := hid w2
 have HB2 := hid b2
 have HN := hid hn
 have Hhd := hid hhd
 have e1 : IntKind.u64.wrap (f : Int) = (f : Int) := by rw [IntKind.wrap_u64]; omega
 have e2 : IntKind.u64.wrap (b : Int) = (b : Int) := by rw [IntKind.wrap_u64]; omega
 have e3 : IntKind.u64.wrap (wd : Int) = (wd : Int) := by rw [IntKind.wrap_u64]; omega
 have e4 : IntKind.u64.wrap (sh : Int) = (sh : Int) := by rw [IntKind.wrap_u64]; omega
 have e5 : IntKind.i64.wrap (z : Int) = (z : Int) := by rw [IntKind.wrap_i64]; omega
 clear h f1 f2 b1 b2 w1 w2 s2 hn hz hH hK hup hAt hBt hhd hz8 hH32 hKb hmax
 go_enter Tryz.func8, Tryz.ntmps8
 go_wp2_with fail
 generalize hW0 : World.alloc _ _ = W0
 obtain ⟨gt, hgt⟩ : ∃ g, g = w.heap.size := ⟨_, rfl⟩
 obtain ⟨gf, hgf⟩ : ∃ g, g = w.heap.size + 1 := ⟨_, rfl⟩
 have HT0 : Hid (Blk W0 gt 44 #[.int .i64 (f : Int), .int .i64 (b : Int), .int .i64 (wd : Int), .int .i64 (sh : Int)]) := hid (by rw [hgt]; exact (blk2 hW0).1)
 have HF0 : Hid (Blk W0 gf 23 #[.bool wide, .bool big]) := hid (by rw [hgf]; exact (blk2 hW0).2.1)
 have HG0 : Hid (Grow w W0) := hid (blk2 hW0).2.2
 rw [← hgf, ← hgt]
 clear hW0 hgt hgf
 refine (HMB.out _).mono ?_
 rintro e w1 ⟨rfl, hg⟩
 have HT1 := hid (HT0.out.grow hg)
 have HF1 := hid (HF0.out.grow hg)
 have HG1 := hid (HG0.out.trans hg)
 clear hg HT0 HF0 HG0 HMB
 go_wp2_with fail
 obtain ⟨B0, hB0⟩ : ∃ B, B = w1.heap.size := ⟨_, rfl⟩
 have hlt : gt < B0 := by rw [hB0]; exact HT1.out.lt
 have hlf : gf < B0 := by rw [hB0]; exact HF1.out.lt
 have hB1 : B0 ≤ w1.drew.heap.size := by rw [hB0]; exact Nat.le_refl _
 clear hB0
 refine wp_region_tree (leap_below B0) (.chain [(0, true), (1, true), (2, true), (3, true), (4, true), (5, true), (6, true), (7, true), (8, true), (9, true), (10, true), (11, true), (12, true)] (.both 13 (.chain [(14, true), (15, false), (16, false)] .done) 15 (.chain [(13, false), (14, true), (16, false)] .done))) (by kernel_rfl) (by kernel_rfl) (by kernel_rfl) ?_
 refine tr_chain ?_
 have HX : Hid (∀ W, Below B0 w1.drew W → (W.cell? ⟨gt, 0, none⟩ = some (.int .i64 (f : Int)) ∧ W.cell? ⟨gt, 1, none⟩ = some (.int .i64 (b : Int)) ∧ W.cell? ⟨gt, 2, none⟩ = some (.int .i64 (wd : Int)) ∧ W.cell? ⟨gt, 3, none⟩ = some (.int .i64 (sh : Int))) ∧ W.cell? ⟨gf, 0, none⟩ = some (.bool wide) ∧ W.cell? ⟨gf, 1, none⟩ = some (.bool big)) :=
  hid fun W hW => ⟨((HT1.out.drew).below hW hlt).c4, ((HF1.out.drew).below hW hlf).c2⟩
 have HF2 : Hid (Blk w1.drew gf 23 #[.bool wide, .bool big]) := HF1.out.drew
 have HG2 : Hid (Grow w w1.drew) := HG1.out.trans (Grow.of_drew _)
 generalize w1.drew = w2 at HX HF2 HG2 hB1 ⊢
 clear HT1 HF1 HG1
 repeat (refine chain_take rfl (by rfl) ?_ (fun W hG => ?_) ?_; rotate_left; (obtain ⟨⟨q1, q2, q3, q4⟩, q5, q6⟩ := HX.out W hG; go_simp; rfl); simp only [Act.put, List.setIfInBounds_toArray, List.set_cons_zero, List.set_cons_succ])
 clear HX e1 e2 e3 e4
 refine chain_done (tr_both (step_op rfl (by rfl) ?A) (step_op rfl (by rfl) ?B))
 case' A =>
  intro K hK
  go_simp
  refine (HWS.out _).mono ?_
  rintro e w4 ⟨rfl, hg4⟩
  refine hK _ _ (hg4.mono hB1) ?_
  clear hK K
  have HF4 := hid (HF2.out.grow hg4)
  have HG4 := hid (HG2.out.trans hg4)
  have HL4 := hid (Nat.le_trans hB1 hg4.size)
  clear hg4 HF2 HG2 hB1
  refine tr_chain ?_
  refine chain_take rfl (by rfl) ?_ (fun W hG => ?_) ?_
  rotate_left
  (go_simp; rfl)
  simp only [Act.put, List.setIfInBounds_toArray, List.set_cons_zero, List.set_cons_succ]
  refine chain_only rfl (by rfl) (fun K hK => ?_)
  go_simp
  refine hK _ _ (Below.alloc (Below.refl _ _) HL4.out _) ?_
  clear hK K
  have HD5 := hid (Blk.new w4 80 #[.int .u64 0, .int .u64 0, .int .u64 0, .int .u64 0, .int .u64 0])
  have HF5 := hid (HF4.out.alloc (.cells #[.int .u64 0, .int .u64 0, .int .u64 0, .int .u64 0, .int .u64 0] 80))
  have HG5 : Hid (Grow w (w4.alloc (.cells #[.int .u64 0, .int .u64 0, .int .u64 0, .int .u64 0, .int .u64 0] 80))) := HG4.out.trans (Grow.of_alloc _ _)
  have HNe : Hid (gf < w4.heap.size ∧ w.heap.size ≤ w4.heap.size ∧ B0 ≤ w4.heap.size) := hid ⟨HF4.out.lt, HG4.out.size, HL4.out⟩
  generalize w4.alloc _ = w5 at HD5 HF5 HG5 ⊢
  generalize w4.heap.size = gx at HD5 HNe ⊢
  clear HF4 HG4 HL4
 case' B =>
  intro K hK
  go_simp
  refine hK _ _ (Below.alloc (Below.refl _ _) hB1 _) ?_
  clear hK K
  have HD4 := hid (Blk.new w2 80 #[.int .u64 0, .int .u64 0, .int .u64 0, .int .u64 0, .int .u64 0])
  have HF4 := hid (HF2.out.alloc (.cells #[.int .u64 0, .int .u64 0, .int .u64 0, .int .u64 0, .int .u64 0] 80))
  have HG4 : Hid (Grow w (w2.alloc (.cells #[.int .u64 0, .int .u64 0, .int .u64 0, .int .u64 0, .int .u64 0] 80))) := HG2.out.trans (Grow.of_alloc _ _)
  have HNe : Hid (gf < w2.heap.size ∧ w.heap.size ≤ w2.heap.size ∧ B0 ≤ w2.heap.size) := hid ⟨HF2.out.lt, HG2.out.size, hB1⟩
  have HL4 : Hid (B0 ≤ (w2.alloc (.cells #[.int .u64 0, .int .u64 0, .int .u64 0, .int .u64 0, .int .u64 0] 80)).heap.size) := hid (by simp; omega)
  generalize w2.alloc _ = w4 at HD4 HF4 HG4 HL4 ⊢
  generalize w2.heap.size = gx at HD4 HNe ⊢
  clear HF2 HG2 hB1
  refine tr_chain ?_
  refine chain_only rfl (by rfl) (fun K hK => ?_)
  go_simp
  refine (HWS.out _).mono ?_
  rintro e w5 ⟨rfl, hg5⟩
  refine hK _ _ (hg5.mono HL4.out) ?_
  clear hK K
  have HD5 := hid (HD4.out.grow hg5)
  have HF5 := hid (HF4.out.grow hg5)
  have HG5 := hid (HG4.out.trans hg5)
  clear hg5 HD4 HF4 HG4 HL4
  refine chain_take rfl (by rfl) ?_ (fun W hG => ?_) ?_
  rotate_left
  (go_simp; rfl)
  simp only [Act.put, List.setIfInBounds_toArray, List.set_cons_zero, List.set_cons_succ]
 all_goals
  refine chain_only rfl (by rfl) (fun K hK => ?_)
  refine wp_store_row 80 (.tmp 8) (.tmp 30) rfl gx #[.int .u64 (b : Int), .int .u64 (f : Int), .int .u64 (wd : Int), .int .u64 (sh : Int), .int .u64 (z : Int)] rfl rfl _ _ HD5.out (by kernel_rfl) rfl (by simp [Value.oneCell']) ?_
  refine hK _ _ (Below.setRow' _ HNe.out.2.2 _) ?_
  clear hK K
  have HX7 := hid (HD5.out.set #[.int .u64 (b : Int), .int .u64 (f : Int), .int .u64 (wd : Int), .int .u64 (sh : Int), .int .u64 (z : Int)])
  have HF7 := hid (HF5.out.other (show gf ≠ gx by have := HNe.out.1; omega) #[.int .u64 (b : Int), .int .u64 (f : Int), .int .u64 (wd : Int), .int .u64 (sh : Int), .int .u64 (z : Int)])
  have HG7 : Hid (Grow w (w5.setRow gx #[.int .u64 (b : Int), .int .u64 (f : Int), .int .u64 (wd : Int), .int .u64 (sh : Int), .int .u64 (z : Int)])) := Grow.set HG5.out HNe.out.2.1 _
  generalize w5.setRow gx _ = w7 at HX7 HF7 HG7 ⊢
  clear HD5 HF5 HG5 HNe HWS
  refine chain_done (tr_done ?_)
  go_wp2_with fail
  refine (HHO.out _ ((HSS.out.belowAt HG7.out (Nat.le_refl _)).more HG7.out.size)).mono ?_
  rintro e w8 ⟨gh, rfl, -, hrow, hg⟩
  have HH8 := hid hrow
  have HX8 := hid (HX7.out.grow hg)
  have HF8 := hid (HF7.out.grow hg)
  have HG8 := hid (HG7.out.trans hg)
  obtain ⟨c0, c1, c2, c3, c4⟩ := HX8.out.c5
  clear hrow hg HX7 HF7 HG7 HHO
  go_wp2_with fail
  refine (HBO.out gh _ HH8.out).mono ?_
  rintro e w9 ⟨gi, rfl, -, hrow, hg⟩
  have HI9 := hid hrow
  have HH9 := hid (rows_grow HH8.out hg)
  have HX9 := hid (HX8.out.grow hg)
  have HF9 := hid (HF8.out.grow hg)
  have HG9 := hid (HG8.out.trans hg)
  clear hrow hg HX8 HF8 HG8 HBO HH8 c0 c1 c2 c3 c4
  go_wp2_with fail
  refine (HIS.out gi _ HI9.out).mono ?_
  rintro e w10 ⟨rfl, hg⟩
  have HI10 := hid (rows_grow HI9.out hg)
  have HH10 := hid (rows_grow HH9.out hg)
  have HX10 := hid (HX9.out.grow hg)
  have HF10 := hid (HF9.out.grow hg)
  have HG10 := hid (HG9.out.trans hg)
  obtain ⟨c0, c1, c2, c3, c4⟩ := HX10.out.c5
  have HF11 := hid (HF10.out.alloc (.cells #[.int .u64 (b : Int), .int .u64 (f : Int), .int .u64 (wd : Int), .int .u64 (sh : Int)] 37))
  obtain ⟨k0, k1⟩ := HF11.out.c2
  clear hg HX9 HF9 HG9 HIS HH9 HI9
  go_wp2_with fail
  obtain ⟨Bs0, hBs0⟩ : ∃ B, B = w10.heap.size := ⟨_, rfl⟩
  have hs : (w10.alloc (.cells #[.int .u64 (b : Int), .int .u64 (f : Int), .int .u64 (wd : Int), .int .u64 (sh : Int)] 37)).rowIs Bs0 37 4 (ivlB .u64 hd) := by
   rw [hBs0]
   refine World.rowIs_alloc w10 _ 37 _ fun i hi => ?_
   have h4 : i < 4 := hi
   have := Hhd.out i h4
   unfold ivlB
   match i, h4 with
   | 0, _ => rw [← this]; rfl
   | 1, _ => rw [← this]; rfl
   | 2, _ => rw [← this]; rfl
   | 3, _ => rw [← this]; rfl
  have HS11 := hid hs
  have HBd : Hid (gx < Bs0 ∧ gf < Bs0 ∧ gh < Bs0 ∧ gi < Bs0) := hid (by rw [hBs0]; exact ⟨HX10.out.lt, HF10.out.lt, HH10.out.lt, HI10.out.lt⟩)
  have HX11 := hid (HX10.out.alloc (.cells #[.int .u64 (b : Int), .int .u64 (f : Int), .int .u64 (wd : Int), .int .u64 (sh : Int)] 37))
  have HH11 := hid (rows_grow HH10.out (Grow.of_alloc w10 (.cells #[.int .u64 (b : Int), .int .u64 (f : Int), .int .u64 (wd : Int), .int .u64 (sh : Int)] 37)))
  have HI11 := hid (rows_grow HI10.out (Grow.of_alloc w10 (.cells #[.int .u64 (b : Int), .int .u64 (f : Int), .int .u64 (wd : Int), .int .u64 (sh : Int)] 37)))
  have HG11 : Hid (Below w.heap.size w (w10.alloc (.cells #[.int .u64 (b : Int), .int .u64 (f : Int), .int .u64 (wd : Int), .int .u64 (sh : Int)] 37))) := hid (HG10.out.trans (Grow.of_alloc _ _))
  have HBs : Hid (w.heap.size ≤ Bs0 ∧ Bs0 ≤ (w10.alloc (.cells #[.int .u64 (b : Int), .int .u64 (f : Int), .int .u64 (wd : Int), .int .u64 (sh : Int)] 37)).heap.size) := hid (by rw [hBs0]; exact ⟨HG10.out.size, by simp⟩)
  have HLA : Hid (∀ (zz : Nat) (A : Option Addr) (n c : Nat) (l : List UInt8) (g m cg : Nat) (fn : Nat → Nat) (W : World), OB W Bs0 5 A n c l → Bs0 ≤ W.heap.size → zz = 4 ∨ zz = 8 → W.rowIs g 37 m (ivlB .u64 fn) → m ≤ 2000 → m ≤ cg → cg ≤ maxLen → l.length ≤ 1000000 →
    Calls Tryz.prog 28 #[.slice A n c, .slice (some ⟨g, 0, none⟩) m cg, .int .i64 (zz : Int), .agg #[.bool wide, .bool big]] W fun e w' => ∃ A2 n2 c2, e = .returned (.slice A2 n2 c2) ∧ OB w' Bs0 5 A2 n2 c2 (l ++ layN zz big fn m) ∧ Below Bs0 W w') :=
   hid fun zz A n c l g m cg fn W ho hb hz hr hm hmc hc hl => lay_anyB A n c l Bs0 g m cg zz fn wide big W ho hb (by rcases hz with rfl | rfl <;> decide) hr hm hmc hc hl
  rw [← hBs0]
  generalize w10.alloc _ = w11 at HS11 HX11 HH11 HI11 HG11 HBs HF11 ⊢
  clear hs hBs0 k0 k1 c0 c1 c2 c3 c4 HX10 HF10 HG10 HH10 HI10
  refine ((HLA.out 4 none 0 0 [] Bs0 4 4 hd w11 OB.nil HBs.out.2 (.inl rfl) HS11.out (by omega) (by omega) (by unfold maxLen; omega) (Nat.zero_le _)) : Calls Tryz.prog 28 #[.slice none 0 0, .slice (some ⟨Bs0, 0, none⟩) 4 4, .int .i64 4, .agg #[.bool wide, .bool big]] w11 _).mono ?_
  rintro e w12 ⟨A1, n1, c1, rfl, ho, hb⟩
  rw [List.nil_append] at ho
  have HO12 := hid ho
  have HX12 := hid (HX11.out.below hb HBd.out.1)
  have HF12 := hid (HF11.out.below hb HBd.out.2.1)
  have HH12 := hid (rows_below HH11.out hb HBd.out.2.2.1)
  have HI12 := hid (rows_below HI11.out hb HBd.out.2.2.2)
  have HG12 := hid (HG11.out.trans (hb.mono HBs.out.1))
  have HB12 := hid (Nat.le_trans HBs.out.2 hb.size)
  clear ho hb HX11 HF11 HH11 HI11 HG11 HS11
  go_wp2_with fail
  have HXW : Hid (∀ W, Below Bs0 w12.drew W → (W.cell? ⟨gx, 0, none⟩ = some (.int .u64 (b : Int)) ∧ W.cell? ⟨gx, 1, none⟩ = some (.int .u64 (f : Int)) ∧ W.cell? ⟨gx, 2, none⟩ = some (.int .u64 (wd : Int)) ∧ W.cell? ⟨gx, 3, none⟩ = some (.int .u64 (sh : Int)) ∧ W.cell? ⟨gx, 4, none⟩ = some (.int .u64 (z : Int))) ∧ W.cell? ⟨gf, 0, none⟩ = some (.bool wide) ∧ W.cell? ⟨gf, 1, none⟩ = some (.bool big)) :=
   hid fun W hW => ⟨((HX12.out.drew).below hW HBd.out.1).c5, ((HF12.out.drew).below hW HBd.out.2.1).c2⟩
  refine wp_region_leap (leap_below Bs0) [(0, true), (1, true), (2, true), (4, true), (5, true), (6, true), (7, true), (3, false), (8, false), (9, true)] (by kernel_rfl) (by kernel_rfl) (by kernel_rfl) ?_
  repeat (refine chain_take rfl (by rfl) ?_ (fun W hG => ?_) ?_; rotate_left; (obtain ⟨⟨q1, q2, q3, q4, q5⟩, q6, q7⟩ := HXW.out W hG; go_simp; rfl); simp only [Act.put, List.setIfInBounds_toArray, List.set_cons_zero, List.set_cons_succ])
  have HO13 : Hid (OB w12.drew Bs0 _ _ _ _ _) := HO12
  have HX13 : Hid (Blk w12.drew gx _ _) := HX12
  have HF13 : Hid (Blk w12.drew gf _ _) := HF12
  have HH13 : Hid (World.rowIs w12.drew gh _ _ _) := HH12
  have HI13 : Hid (World.rowIs w12.drew gi _ _ _) := HI12
  have HG13 : Hid (Below w.heap.size w w12.drew) := hid (below_drewN HG12.out 1)
  have HB13 : Hid (Bs0 ≤ w12.drew.heap.size) := HB12
  generalize w12.drew = w13 at HO13 HX13 HF13 HH13 HI13 HG13 HB13 ⊢
  clear HXW HO12 HX12 HF12 HH12 HI12 HG12 HB12
  refine chain_only rfl (by rfl) (fun K hK => ?_)
  go_simp
  refine (HFI.out gh _ HH13.out).mono ?_
  rintro e w14 ⟨gr, rfl, -, hrow, hg⟩
  refine hK _ _ (hg.mono HB13.out) ?_
  clear hK K
  have HR14 := hid hrow
  have HO14 := hid (HO13.out.keep hg)
  have HX14 := hid (HX13.out.grow hg)
  have HF14 := hid (HF13.out.grow hg)
  have HH14 := hid (rows_grow HH13.out hg)
  have HI14 := hid (rows_grow HI13.out hg)
  have HG14 := hid (HG13.out.trans (hg.mono (Nat.le_trans HBs.out.1 HB13.out)))
  have HB14 := hid (Nat.le_trans HB13.out hg.size)
  clear hrow hg HO13 HX13 HF13 HH13 HI13 HG13 HB13
  refine chain_only rfl (by rfl) (fun K hK => ?_)
  go_simp
  refine (HLA.out z _ _ _ _ gr wd wd _ w14 HO14.out HB14.out HZ.out HR14.out (by have h2 := HW2.out; omega) (Nat.le_refl _) (by have h2 := HW2.out; unfold maxLen; omega) (by have h2 := HW2.out; have h3 : wd * z ≤ 1024 * 8 := Nat.mul_le_mul h2 (by have := HZ.out; omega); have h4 := HB2.out; simp only [length_layN]; omega)).mono ?_
  rintro e w15 ⟨A2, n2, c2, rfl, ho, hb⟩
  refine hK _ _ hb ?_
  clear hK K
  have HO15 := hid ho
  have HX15 := hid (HX14.out.below hb HBd.out.1)
  have HF15 := hid (HF14.out.below hb HBd.out.2.1)
  have HH15 := hid (rows_below HH14.out hb HBd.out.2.2.1)
  have HI15 := hid (rows_below HI14.out hb HBd.out.2.2.2)
  have HG15 := hid (HG14.out.trans (hb.mono HBs.out.1))
  have HB15 := hid (Nat.le_trans HB14.out hb.size)
  clear ho hb HR14 HO14 HX14 HF14 HH14 HI14 HG14 HB14
  refine chain_take rfl (by rfl) ?_ (fun W hG => ?_) ?_
  rotate_left
  (go_simp; rfl)
  simp only [Act.put, List.setIfInBounds_toArray, List.set_cons_zero, List.set_cons_succ]
  refine chain_done ?_
  go_wp2_with fail
  have HXW : Hid (∀ W, Below Bs0 w15.drew W → (W.cell? ⟨gx, 0, none⟩ = some (.int .u64 (b : Int)) ∧ W.cell? ⟨gx, 1, none⟩ = some (.int .u64 (f : Int)) ∧ W.cell? ⟨gx, 2, none⟩ = some (.int .u64 (wd : Int)) ∧ W.cell? ⟨gx, 3, none⟩ = some (.int .u64 (sh : Int)) ∧ W.cell? ⟨gx, 4, none⟩ = some (.int .u64 (z : Int))) ∧ W.cell? ⟨gf, 0, none⟩ = some (.bool wide) ∧ W.cell? ⟨gf, 1, none⟩ = some (.bool big)) :=
   hid fun W hW => ⟨((HX15.out.drew).below hW HBd.out.1).c5, ((HF15.out.drew).below hW HBd.out.2.1).c2⟩
  refine wp_region_leap (leap_below Bs0) [(0, true), (1, true), (2, true), (4, true), (3, false), (5, false), (6, true)] (by kernel_rfl) (by kernel_rfl) (by kernel_rfl) ?_
  repeat (refine chain_take rfl (by rfl) ?_ (fun W hG => ?_) ?_; rotate_left; (obtain ⟨⟨q1, q2, q3, q4, q5⟩, q6, q7⟩ := HXW.out W hG; go_simp; rfl); simp only [Act.put, List.setIfInBounds_toArray, List.set_cons_zero, List.set_cons_succ])
  have HO16 : Hid (OB w15.drew Bs0 _ _ _ _ _) := HO15
  have HX16 : Hid (Blk w15.drew gx _ _) := HX15
  have HF16 : Hid (Blk w15.drew gf _ _) := HF15
  have HH16 : Hid (World.rowIs w15.drew gh _ _ _) := HH15
  have HI16 : Hid (World.rowIs w15.drew gi _ _ _) := HI15
  have HG16 : Hid (Below w.heap.size w w15.drew) := hid (below_drewN HG15.out 1)
  have HB16 : Hid (Bs0 ≤ w15.drew.heap.size) := HB15
  generalize w15.drew = w16 at HO16 HX16 HF16 HH16 HI16 HG16 HB16 ⊢
  clear HXW HO15 HX15 HF15 HH15 HI15 HG15 HB15
  refine chain_only rfl (by rfl) (fun K hK => ?_)
  go_simp
  refine (HPL.out gi _ HI16.out).mono ?_
  rintro e w17 ⟨gr, rfl, -, hrow, hg⟩
  refine hK _ _ (hg.mono HB16.out) ?_
  clear hK K
  have HR17 := hid hrow
  have HO17 := hid (HO16.out.keep hg)
  have HX17 := hid (HX16.out.grow hg)
  have HF17 := hid (HF16.out.grow hg)
  have HH17 := hid (rows_grow HH16.out hg)
  have HI17 := hid (rows_grow HI16.out hg)
  have HG17 := hid (HG16.out.trans (hg.mono (Nat.le_trans HBs.out.1 HB16.out)))
  have HB17 := hid (Nat.le_trans HB16.out hg.size)
  clear hrow hg HO16 HX16 HF16 HH16 HI16 HG16 HB16
  refine chain_only rfl (by rfl) (fun K hK => ?_)
  go_simp
  refine ((HLA.out 4 _ _ _ _ gr b b _ w17 HO17.out HB17.out (.inl rfl) HR17.out (by have h2 := HB2.out; omega) (Nat.le_refl _) (by have h2 := HB2.out; unfold maxLen; omega) (by have h2 := HW2.out; have h3 : wd * z ≤ 1024 * 8 := Nat.mul_le_mul h2 (by have := HZ.out; omega); have h4 := HB2.out; simp only [List.length_append, length_layN]; omega)) : Calls Tryz.prog 28 #[_, _, .int .i64 4, _] _ _).mono ?_
  rintro e w18 ⟨A2, n2, c2, rfl, ho, hb⟩
  refine hK _ _ hb ?_
  clear hK K
  have HO18 := hid ho
  have HX18 := hid (HX17.out.below hb HBd.out.1)
  have HF18 := hid (HF17.out.below hb HBd.out.2.1)
  have HH18 := hid (rows_below HH17.out hb HBd.out.2.2.1)
  have HI18 := hid (rows_below HI17.out hb HBd.out.2.2.2)
  have HG18 := hid (HG17.out.trans (hb.mono HBs.out.1))
  have HB18 := hid (Nat.le_trans HB17.out hb.size)
  clear ho hb HR17 HO17 HX17 HF17 HH17 HI17 HG17 HB17
  refine chain_take rfl (by rfl) ?_ (fun W hG => ?_) ?_
  rotate_left
  (go_simp; rfl)
  simp only [Act.put, List.setIfInBounds_toArray, List.set_cons_zero, List.set_cons_succ]
  refine chain_done ?_
  go_wp2_with fail
  have HXW : Hid (∀ W, Below Bs0 w18.drew W → (W.cell? ⟨gx, 0, none⟩ = some (.int .u64 (b : Int)) ∧ W.cell? ⟨gx, 1, none⟩ = some (.int .u64 (f : Int)) ∧ W.cell? ⟨gx, 2, none⟩ = some (.int .u64 (wd : Int)) ∧ W.cell? ⟨gx, 3, none⟩ = some (.int .u64 (sh : Int)) ∧ W.cell? ⟨gx, 4, none⟩ = some (.int .u64 (z : Int))) ∧ W.cell? ⟨gf, 0, none⟩ = some (.bool wide) ∧ W.cell? ⟨gf, 1, none⟩ = some (.bool big)) :=
   hid fun W hW => ⟨((HX18.out.drew).below hW HBd.out.1).c5, ((HF18.out.drew).below hW HBd.out.2.1).c2⟩
  refine wp_region_leap (leap_below Bs0) [(0, true), (1, true), (2, true), (4, true), (3, false), (5, false), (6, true), (7, true)] (by kernel_rfl) (by kernel_rfl) (by kernel_rfl) ?_
  repeat (refine chain_take rfl (by rfl) ?_ (fun W hG => ?_) ?_; rotate_left; (obtain ⟨⟨q1, q2, q3, q4, q5⟩, q6, q7⟩ := HXW.out W hG; go_simp; rfl); simp only [Act.put, List.setIfInBounds_toArray, List.set_cons_zero, List.set_cons_succ])
  have HO19 : Hid (OB w18.drew Bs0 _ _ _ _ _) := HO18
  have HX19 : Hid (Blk w18.drew gx _ _) := HX18
  have HF19 : Hid (Blk w18.drew gf _ _) := HF18
  have HH19 : Hid (World.rowIs w18.drew gh _ _ _) := HH18
  have HI19 : Hid (World.rowIs w18.drew gi _ _ _) := HI18
  have HG19 : Hid (Below w.heap.size w w18.drew) := hid (below_drewN HG18.out 1)
  have HB19 : Hid (Bs0 ≤ w18.drew.heap.size) := HB18
  generalize w18.drew = w19 at HO19 HX19 HF19 HH19 HI19 HG19 HB19 ⊢
  clear HXW HO18 HX18 HF18 HH18 HI18 HG18 HB18
  refine chain_only rfl (by rfl) (fun K hK => ?_)
  go_simp
  refine (HCH.out gh gi _ HH19.out HI19.out).mono ?_
  rintro e w20 ⟨gr, rfl, -, hrow, hg⟩
  refine hK _ _ (hg.mono HB19.out) ?_
  clear hK K
  have HR20 := hid hrow
  have HO20 := hid (HO19.out.keep hg)
  have HX20 := hid (HX19.out.grow hg)
  have HF20 := hid (HF19.out.grow hg)
  have HH20 := hid (rows_grow HH19.out hg)
  have HI20 := hid (rows_grow HI19.out hg)
  have HG20 := hid (HG19.out.trans (hg.mono (Nat.le_trans HBs.out.1 HB19.out)))
  have HB20 := hid (Nat.le_trans HB19.out hg.size)
  clear hrow hg HO19 HX19 HF19 HH19 HI19 HG19 HB19
  refine chain_only rfl (by rfl) (fun K hK => ?_)
  go_simp
  refine ((HLA.out 4 _ _ _ _ gr n n _ w20 HO20.out HB20.out (.inl rfl) HR20.out (by have h2 := HN.out; omega) (Nat.le_refl _) (by have h2 := HN.out; unfold maxLen; omega) (by have h2 := HW2.out; have h3 : wd * z ≤ 1024 * 8 := Nat.mul_le_mul h2 (by have := HZ.out; omega); have h4 := HB2.out; simp only [List.length_append, length_layN]; omega)) : Calls Tryz.prog 28 #[_, _, .int .i64 4, _] _ _).mono ?_
  rintro e w21 ⟨A2, n2, c2, rfl, ho, hb⟩
  refine hK _ _ hb ?_
  clear hK K
  have HO21 := hid ho
  have HX21 := hid (HX20.out.below hb HBd.out.1)
  have HF21 := hid (HF20.out.below hb HBd.out.2.1)
  have HH21 := hid (rows_below HH20.out hb HBd.out.2.2.1)
  have HI21 := hid (rows_below HI20.out hb HBd.out.2.2.2)
  have HG21 := hid (HG20.out.trans (hb.mono HBs.out.1))
  have HB21 := hid (Nat.le_trans HB20.out hb.size)
  clear ho hb HR20 HO20 HX20 HF20 HH20 HI20 HG20 HB20
  refine chain_take rfl (by rfl) ?_ (fun W hG => ?_) ?_
  rotate_left
  (go_simp; rfl)
  simp only [Act.put, List.setIfInBounds_toArray, List.set_cons_zero, List.set_cons_succ]
  refine chain_take rfl (by rfl) ?_ (fun W hG => ?_) ?_
  rotate_left
  (go_simp; rfl)
  simp only [Act.put, List.setIfInBounds_toArray, List.set_cons_zero, List.set_cons_succ]
  refine chain_done ?_
  go_wp2
  go_ret2
  exact ⟨_, _, _, rfl, HO21.out.rb, HG21.out⟩
theorem build_any (t : Gn) (ht : t.Ok) (A : Option Addr) (n c : Nat) (w : World) (h : SS w w.heap.size A n c t.L) :
  Calls Tryz.prog 8 #[.agg #[.int .i64 (t.first : Int), .int .i64 (t.buckets : Int), .int .i64 (t.words : Int), .int .i64 (t.shift : Int)], .slice A n c, .agg #[.bool t.wide, .bool t.big]] w fun e w' =>
   ∃ A2 n2 c2, e = .returned (.tuple #[.slice A2 n2 c2, .nilIface]) ∧ RB w' w'.heap.size A2 n2 c2 t.B ∧ Grow w w' := by
 have hn : n = t.n := h.len
 have := build_core t.first t.buckets t.words t.shift t.z n c t.wide t.big t.L t.h t.k (fun i => t.at_ (t.h i)) (fun i => t.bt (t.h i)) t.hd A w h ht.f1 ht.f2 ht.b1 ht.b2 ht.w1 ht.w2 ht.s2 (by rw [hn]; exact ht.n2) rfl rfl rfl (fun i hi => ht.up i (i + 1) (by omega) (by omega)) (fun _ _ => rfl) (fun _ _ => rfl) (fun _ _ => rfl)
 rw [hn] at this ⊢
 exact this
end Go.Proofs.YtfbimboemahhhaaGreatDoor
